/- Several texts in one. -/
import Derived.Test.YtbbkihekjdffpaaGreatDoorJdPb
import Derived.Test.YtbbkihekjdffpaaGreatDoorRefS
namespace Go.Proofs.YtbbkihekjdffpaaGreatDoor.jd
open Go.RowKit
open srch (Legal LinP zqq z6N endS zLZ ahB Judged say ordO zBL Told PathW zCN zxD zIM zoi takenL mem_takenL gHas wfG Gr idsT ziO Rd)
theorem zRW {g h:Gr}(hg:wfG g)(hh:wfG h)(e:∀q,q<128→gHas g q=gHas h q):g=h:=by
 have key:∀x y:Int,(0≤x∧x≤18446744073709551615)→(0≤y∧y≤18446744073709551615)→(∀k,k<64→(bits .and .u64 (x/2 ^ k) 1 != 0)=(bits .and .u64 (y/2 ^ k) 1 != 0))→x=y:=by
  intro x y hx hy hk;obtain⟨x,rfl⟩:=Int.eq_ofNat_of_zero_le hx.1;obtain⟨y,rfl⟩:=Int.eq_ofNat_of_zero_le hy.1;have hx':x<18446744073709551616:=by omega
  have hy':y<18446744073709551616:=by omega
  congr 1;apply Nat.eq_of_testBit_eq;intro i;by_cases hi:i<64
  ·have:=hk i hi;rw[srch.bit_of x hx',srch.bit_of y hy']at this;exact this
  ·have h64:∀z:Nat,z<18446744073709551616→z.testBit i=false:=fun z hz=>Nat.testBit_lt_two_pow (zH hz (by
    have:(2:Nat) ^ 64≤2 ^ i:=Nat.pow_le_pow_right (by omega) (by omega);have e:(2:Nat) ^ 64=18446744073709551616:=(by decide);omega))
   rw[h64 x hx',h64 y hy']
 refine Prod.ext ?_ ?_
 ·refine key _ _ hg.1 hh.1 (fun k hk=>?_);have:=e k (by omega);unfold gHas at this;rw[if_pos hk,if_pos hk,Nat.mod_eq_of_lt hk]at this;exact this
 ·refine key _ _ hg.2 hh.2 (fun k hk=>?_);have:=e (k+64) (by omega);unfold gHas at this;rw[if_neg (by omega),if_neg (by omega),show(k+64)%64=k by omega]at this;exact this
theorem z3f (L:List Cf):∀n:Nat,(∀c∈L,c.1.count 49≤L.foldl (fun n c=>max n (c.1.count 49)) n)∧n≤L.foldl (fun n c=>max n (c.1.count 49)) n:=by
 induction L with
 |nil=>intro n;exact⟨by simp,Nat.le_refl _⟩
 |cons c r ih=>
   intro n;obtain⟨h1,h2⟩:=ih (max n (c.1.count 49));refine⟨fun x hx=>?_,?_⟩
   ·rw[List.foldl_cons];rcases List.mem_cons.1 hx with rfl|hx
    ·omega
    ·exact h1 x hx
   ·rw[List.foldl_cons];omega
theorem zkI (L:List Cf)(b:Nat)(h:∀c∈L,c.1.count 49≤b):∀n,n≤b→L.foldl (fun n c=>max n (c.1.count 49)) n≤b:=by
 induction L with
 |nil=>intro n hn;exact hn
 |cons c r ih=>
   intro n hn;rw[List.foldl_cons];exact ih (fun x hx=>h x (by simp[hx])) _ (by have:=h c (by simp);omega)
theorem z3r {ops ord:List OpV}(hd:ops.Nodup)(hn:ord.Nodup)(hs:∀o∈ord,o∈ops):(zQ0 ops ord).count 49=ord.length:=by
 have e:(zQ0 ops ord).count 49=(ops.filter (fun o=>decide (o∈ord))).length:=by
  unfold zQ0;clear hd hs
  induction ops with
  |nil=>rfl
  |cons o r ih=>
    rw[List.map_cons];by_cases h:o∈ord
    ·rw[if_pos h,List.count_cons_self,ih,List.filter_cons_of_pos (by simpa using h)];rfl
    ·rw[if_neg h,List.count_cons_of_ne (by decide),ih,List.filter_cons_of_neg (by simpa using h)]
 rw[e];apply Nat.le_antisymm
 ·exact ziO _ _ (hd.filter _) (fun x hx=>by simpa using (List.mem_filter.1 hx).2)
 ·exact ziO _ _ hn (fun x hx=>List.mem_filter.2 ⟨hs x hx,by simpa using hx⟩)
theorem zS7 {ops ord:List OpV}(hret:∀o∈ops,0≤o.ret):z0d ops (zQ0 ops ord)=true↔∀o∈ops,o.ret≠0→o∈ord:=by
 unfold z0d;rw[Bool.not_eq_true',List.any_eq_false];constructor
 ·intro h o ho hr;apply Decidable.byContradiction;intro hn;obtain⟨i,hi⟩:=List.mem_iff_getElem?.1 ho;apply h i (by simpa using (zB hi).1);unfold zy1;rw[zUg ops ord i o hi,hi,if_neg hn];have:=hret o ho;simp;omega
 ·intro h i hi hb;obtain⟨o,ho⟩:∃o,ops[i]?=some o:=⟨_,zC (by simpa using hi)⟩;unfold zy1 at hb;rw[zUg ops ord i o ho,ho]at hb;simp only [Option.getD_some,Bool.and_eq_true,decide_eq_true_eq,beq_iff_eq]at hb;rw[if_pos (h o (List.mem_of_getElem? ho) (by omega))]at hb;exact absurd hb.1 (by decide)
section
variable {σ:Type} {doit:σ→OpV→σ×Int×Int} {s0:σ} {txt:σ→List UInt8} {good:σ→Prop} {m:List UInt8} {ops:List OpV}
theorem zmq (h:Sim doit s0 txt good m ops)(hd:ops.Nodup){room:Nat}{L:List Cf}(hC:Cfs m ops room L true)(n:Nat):∀ord:List OpV,ord.length=n→Legal doit s0 ops ord→zSj doit s0 txt ops ord∈L:=by
 induction n with
 |zero=>intro ord hn _;rw[List.length_eq_zero_iff.1 hn,zx8 h];exact hC.has
 |succ n ih=>
   intro ord hn hL;rcases List.eq_nil_or_concat ord with rfl|⟨r,x,rfl⟩
   ·simp at hn
   rw[List.concat_eq_append]at hn hL⊢;have hx:=zsl (hL.sub x (by simp));exact hC.shut rfl _ (ih r (by simpa using hn) hL.init) _ (zB hx).1 _ (znc h hd hL hx)
theorem zfe (h:Sim doit s0 txt good m ops)(hd:ops.Nodup)(hret:∀o∈ops,0≤o.ret){room:Nat}{L:List Cf}{kn:Bool}(hC:Cfs m ops room L kn)(hi:isP ops L=true):LinP doit s0 ops:=by
 unfold isP at hi;rw[List.any_eq_true]at hi;obtain⟨c,hc,hw⟩:=hi;obtain⟨ord,hL,rfl⟩:=zXu h hd hret (hC.all c hc);exact⟨ord,hL,(zS7 hret).1 hw⟩
theorem zPY (h:Sim doit s0 txt good m ops)(hd:ops.Nodup)(hn:ops.length≤128){room:Nat}{L:List Cf}(hC:Cfs m ops room L true)(vis:List (Gr×σ))(hvn:vis.Nodup)(hv:∀c∈vis,srch.Reach doit (ordO ops) ((0,0),s0) c):vis.length≤L.length:=by
 have hp:=zBL ops;have hn':(ordO ops).length≤128:=by rw[hp.length_eq];exact hn
 have hd':(ordO ops).Nodup:=hp.nodup_iff.2 hd;have key:∀c∈vis,∃ord,Legal doit s0 ops ord∧c.2=endS doit s0 ord∧wfG c.1∧∀q o,(ordO ops)[q]?=some o→(gHas c.1 q=true↔o∈ord):=by
  intro c hc;obtain⟨l,hl⟩:=hv c hc;obtain⟨hL,he⟩:=zCN doit hn' hd' hl;refine⟨takenL (ordO ops) l,hL.perm doit (fun o=>hp.mem_iff),he,(zIM doit _ hn' hl).1,fun q o ho=>?_⟩;have hq:q<128:=by have:=(zB ho).1;omega
  rw[(zxD doit _ hn' hl).2 q hq,mem_takenL];constructor
  ·intro hm;exact⟨q,hm,ho⟩
  ·rintro⟨q',hm,ho'⟩;rw[srch.nodup_at hd' ho ho'];exact hm
 have hch:∃f:Gr×σ→List OpV,∀c∈vis,Legal doit s0 ops (f c)∧c.2=endS doit s0 (f c)∧wfG c.1∧(∀q o,(ordO ops)[q]?=some o→(gHas c.1 q=true↔o∈f c)):=by
  have key2:∀c:Gr×σ,∃ord,c∈vis→Legal doit s0 ops ord∧c.2=endS doit s0 ord∧wfG c.1∧∀q o,(ordO ops)[q]?=some o→(gHas c.1 q=true↔o∈ord):=fun c=>by
   by_cases hc:c∈vis
   ·obtain⟨ord,ho⟩:=key c hc;exact⟨ord,fun _=>ho⟩
   ·exact⟨[],fun x=>absurd x hc⟩
  exact⟨fun c=>Classical.choose (key2 c),fun c hc=>Classical.choose_spec (key2 c) hc⟩
 obtain⟨f,hf⟩:=hch;have hnd:(vis.map (fun c=>zSj doit s0 txt ops (f c))).Nodup:=by
  rw[List.Nodup,List.pairwise_map];refine List.Pairwise.imp_of_mem (fun {a b} ha hb hne e=>hne ?_) hvn;obtain⟨a1,a2,a3,a4⟩:=hf a ha;obtain⟨b1,b2,b3,b4⟩:=hf b hb;unfold zSj at e;injection e with e1 e2;have hmem:∀o∈ops,(o∈f a↔o∈f b):=by
   intro o ho;obtain⟨i,hi⟩:=List.mem_iff_getElem?.1 ho;have h1:=zUg ops (f a) i o hi;rw[e1,zUg ops (f b) i o hi]at h1;by_cases x:o∈f a
   ·by_cases y:o∈f b
    ·exact⟨fun _=>y,fun _=>x⟩
    ·rw[if_neg y,if_pos x]at h1;exact absurd h1 (by decide)
   ·by_cases y:o∈f b
    ·rw[if_pos y,if_neg x]at h1;exact absurd h1 (by decide)
    ·exact⟨fun z=>absurd z x,fun z=>absurd z y⟩
  refine Prod.ext (zRW a3 b3 (fun q hq=>?_)) ?_
  ·by_cases hql:q<(ordO ops).length
   ·have ho:=zC hql;rw[Bool.eq_iff_iff,a4 q _ ho,b4 q _ ho];exact hmem _ (hp.mem_iff.1 (List.getElem_mem hql))
   ·have hno:∀c∈vis,gHas c.1 q=false:=by
     intro c hc;obtain⟨l,hl⟩:=hv c hc;rw[Bool.eq_false_iff];intro hh;have:=((zxD doit _ hn' hl).2 q hq).1 hh;obtain⟨s,hs,rfl⟩:=List.mem_map.1 this;exact hql (srch.path_lt doit _ hl s hs)
    rw[hno a ha,hno b hb]
  ·exact h.inj _ _ (by rw[a2];exact h.ends _ _ rfl a1.sub) (by rw[b2];exact h.ends _ _ rfl b1.sub) (by rw[a2,b2];exact e2)
 have:=ziO _ L hnd (fun x hx=>by
  obtain⟨c,hc,rfl⟩:=List.mem_map.1 hx;exact zmq h hd hC _ _ rfl (hf c hc).1)
 simpa using this
theorem zHo {ord:List OpV}(hL:Legal doit s0 ops ord):z8Z ord:=by
 intro i k a b hki ha hb;rintro⟨h1,h2⟩;obtain⟨hkl,hke⟩:=zB hb;have hspl:ord=ord.take k++b::ord.drop (k+1):=by rw[←hke,←List.drop_eq_getElem_cons hkl,List.take_append_drop]
 have hin:=hL.ahead _ _ _ hspl a (hL.sub a (List.mem_of_getElem? ha)) (by unfold ahB;simp;omega);obtain⟨q,hq⟩:=List.mem_iff_getElem?.1 hin;rw[List.getElem?_take]at hq;split at hq
 ·have:=srch.nodup_at hL.nd hq ha;omega
 ·cases hq
theorem zOc (n L:Nat)(h:roomP n<L):1000000<2*(n+1)*L:=by
 unfold roomP at h;exact(Nat.div_lt_iff_lt_mul (by omega)).1 h |> fun x=>by rw[Nat.mul_comm]at x;exact x
end
open srch (Legal LinP ordO Judged say idsT Rd zAl zAR zNr okOp z7a zFH zCI lkDo quDo decP wfI)
def okN (m:List UInt8)(o:OpV):Prop:=(∃r∈opTab,r.1=m∧r.2.1=o.name)∧wf64 o.exp∧(lone3 m→o.key=[])
theorem zrh {m n:List UInt8}{ms:List Mem}{r:zqk}(hf:zco m n opTab=some r)(hh:r.2.2.1=z8C ms)(hm:lone3 m):zbh ms sKey=[]:=by
 unfold zco at hf;have h1:=List.mem_of_find?_eq_some hf;have h2:=List.find?_some hf;simp only [Bool.and_eq_true,beq_iff_eq]at h2;have hb:r.2.2.1=0∨r.2.2.1=2∨r.2.2.1=6:=by
  have h3:=h2.1;simp only [opTab,List.mem_cons,List.not_mem_nil,or_false]at h1;rcases hm with rfl|rfl|rfl<;>rcases h1 with rfl|rfl|rfl|rfl|rfl|rfl|rfl|rfl|rfl|rfl|rfl|rfl|rfl<;>first|(exact absurd h3 (by decide))|simp
 unfold zbh;cases hk:z8R ms sKey with
 |none=>rfl
 |some x=>
   unfold z8C at hh;rw[hk]at hh;simp only [Option.isSome_some,if_true]at hh;split at hh<;>split at hh<;>omega
theorem zfE {model:List UInt8}{ops ops':List OpV}{s:ByteArray}{line r:Int}(ho:∀o∈ops,okN model o)(h:addP model ops s line=(r,some ops')):(∀o∈ops',okN model o)∧ops'.length≤ops.length+1:=by
 unfold addP at h;split at h
 ·injection h with _ h;cases h
 ·rename_i ms hm;have hg:=zau hm;split at h
  ·split at h
   ·injection h with _ h;unfold zRl at h;dsimp only at h;split at h
    ·cases h
    ·rename_i row hrow;split at h
     ·rename_i hhav;split at h
      ·cases h
      ·split at h
       ·cases h
       ·simp at h;subst h;refine⟨fun o hx=>?_,by simp⟩;rcases List.mem_append.1 hx with hx|hx
        ·exact ho o hx
        ·rw[List.mem_singleton]at hx;subst hx;refine⟨⟨row,List.mem_of_find?_eq_some hrow,?_⟩,zFH hg _,zrh hrow hhav⟩;have:=List.find?_some hrow;simpa using this
     ·cases h
   ·split at h
    ·unfold retP at h;split at h
     ·injection h with _ h;cases h
     ·split at h
      ·injection h with _ h;cases h
      ·rename_i i _ o he;split at h
       ·injection h with _ h;cases h
       ·split at h
        ·injection h with _ h;injection h with h;subst h;refine⟨fun x hx=>?_,by simp⟩;rcases List.mem_or_eq_of_mem_set hx with hx|hx
         ·exact ho x hx
         ·subst hx;exact ho o (List.mem_of_getElem? he)
        ·injection h with _ h;cases h
    ·injection h with _ h;cases h
  ·injection h with _ h;cases h
theorem zIY (model:List UInt8):∀(f:Nat) (ops:List OpV) (t:List UInt8) (k:Nat) (res:List OpV),(∀o∈ops,okN model o)→ops.length+f≤129→zIn model f ops t k=.inl res→(∀o∈res,okN model o)∧res.length≤128:=by
 intro f
 induction f with
 |zero=>intro ops t k res _ _ h;simp[zIn]at h
 |succ f ih=>
   intro ops t k res ho hl h;unfold zIn at h;split at h
   ·injection h with h;subst h;exact⟨ho,by omega⟩
   ·split at h
    ·cases h
    ·split at h
     ·cases h
     ·rename_i r ops' he;obtain⟨h1,h2⟩:=zfE ho he;exact ih ops' _ _ res h1 (by omega) h
theorem zpY {model t:List UInt8}{ops:List OpV}(h:z9w model t=.inl ops):(∀o∈ops,okN model o)∧ops.length≤128:=zIY model 129 [] t 0 ops (by simp) (by simp) h
theorem okN.names {m:List UInt8}{o:OpV}(h:okN m o):names o.name:=by
 obtain⟨⟨r,hr,_,h2⟩,_⟩:=h;rw[←h2];unfold jd.names;simp only [opTab,List.mem_cons,List.not_mem_nil,or_false]at hr;rcases hr with rfl|rfl|rfl|rfl|rfl|rfl|rfl|rfl|rfl|rfl|rfl|rfl|rfl<;>simp[zxX,zus,nCas,nGet,nPut,nDel,nEnq,nDeq,nAdd,nRem,nHas,nAcq,nRel]
theorem zH8 {a b:Int}(ha:wf64 a)(hb:wf64 b)(h:Lib.itoa a=Lib.itoa b):a=b:=by
 have h1:=zmn a ha.1 ha.2;rw[h,zmn b hb.1 hb.2]at h1;injection h1 with h1;exact h1.symm
theorem zGn {a:Int}(ha:wf64 a):Lib.itoa a≠[45]:=fun h=>by
 have h1:=zmn a ha.1 ha.2;rw[h]at h1;have h2:(z7y [45]).2=true:=by rw[h1]
 exact absurd h2 (by decide)
theorem z2w {a:Int}(ha:wf64 a):Lib.itoa a≠[]:=fun h=>by
 have h1:=zmn a ha.1 ha.2;rw[h]at h1;have h2:(z7y []).2=true:=by rw[h1]
 exact absurd h2 (by decide)
theorem zm2 {a:Int}(ha:wf64 a):numV (Lib.itoa a)=(1,a):=by
 unfold numV;rw[zmn a ha.1 ha.2];rfl
theorem zMA:Lib.itoa 0=[48]:=by
 unfold Lib.itoa;rw[if_neg (by omega),zDc];rfl
theorem wf_zero:wf64 0:=⟨by decide,by decide⟩
theorem zpg (m:Nat):allD (nats (Lib.decDigits m)):=by
 induction m using Nat.strongRecOn with
 |ind m ih=>
   rw[zDc];by_cases h:m<10
   ·rw[if_pos h,zNL m h];intro c hc;simp at hc;omega
   ·rw[if_neg h,zfI,zNL _ (Nat.mod_lt _ (by omega))];intro c hc;rcases List.mem_append.1 hc with hc|hc
    ·exact ih (m/10) (by omega) c hc
    ·simp at hc;omega
theorem z1U (m:Nat):zqj (nats (Lib.decDigits m)):=by
 refine⟨zpg m,fun h=>(zot m).2.1 (fun e=>?_)⟩;subst e;rw[zDc,if_pos (by omega)]at h;simp[nats]at h
theorem z15 {a:Int}(ha:wf64 a):decP (Lib.itoa a)=some a:=by
 have hx:=zmn a ha.1 ha.2;unfold z7y at hx;injection hx with h1 h2;rw[Bool.and_eq_true]at h2;have hw:zyu (nats (Lib.itoa a))=(a,true):=Prod.ext h1 h2.1;have hsg:nats (Lib.itoa a)=sgnd (decide (a<0)) (nats (Lib.decDigits a.natAbs)):=by
  unfold Lib.itoa sgnd;by_cases hn:a<0
  ·rw[if_pos hn,decide_eq_true hn,if_pos rfl];rfl
  ·rw[if_neg hn,decide_eq_false hn,if_neg (by simp),show a.toNat=a.natAbs by omega]
 have hp:Lib.parseIntB 64 (Lib.itoa a)=.ok a:=by
  rcases z8f (decide (a<0)) (z1U a.natAbs)with ⟨v,h3,h4⟩|⟨_,h3⟩
  ·rw[←hsg,zWB]at h3;rw[←hsg,hw]at h4;injection h4 with h4;rw[h3,h4]
  ·rw[←hsg,hw]at h3;cases h3
 rw[srch.decP_ok hp,if_pos rfl]
open srch (Legal LinP ordO Judged say idsT Rd zAl zNr okOp z7a zCI lkDo quDo decP wfI)
theorem zWu {m:List UInt8}{o:OpV}(h:okN m o):(m=sReg→o.name=zxX∨o.name=zus∨o.name=nCas)∧(m=zsK→o.name=nEnq∨o.name=nDeq)∧(m=zyy→o.name=nAcq∨o.name=nRel):=by
 obtain⟨⟨r,hr,h1,h2⟩,_⟩:=h;rw[←h2];simp only [opTab,List.mem_cons,List.not_mem_nil,or_false]at hr;refine⟨fun e=>?_,fun e=>?_,fun e=>?_⟩
 all_goals
  subst e;rcases hr with rfl|rfl|rfl|rfl|rfl|rfl|rfl|rfl|rfl|rfl|rfl|rfl|rfl<;>first|(exact absurd h1 (by decide))|simp[zxX,zus,nCas,nEnq,nDeq,nAcq,nRel]
structure OkM (m:List UInt8)(o:OpV):Prop where
 nm:okN m o
 arg:wf64 o.arg
 cl:wf64 o.cl
theorem z28 (ops:List OpV)(h:∀o∈ops,OkM sReg o):Sim zCI 0 Lib.itoa wf64 sReg ops where
 good0:=wf_zero
 first:=by rw[zMA];decide
 inj:=fun s s' h1 h2 e=>zH8 h1 h2 e
 step:=by
  intro s o hs ho;obtain⟨hn,ha,_⟩:=h o ho;have hx:=hn.2.1;rcases(zWu hn).1 rfl with e|e|e
  ·simp[zCI,ztI,e,zxX,zm2 hs,hs]
  ·simp[zCI,ztI,e,zxX,nGet,zus,ha]
  ·have hc:(Lib.itoa s=Lib.itoa o.exp)↔s=o.exp:=⟨zH8 hs hx,fun e=>by rw[e]⟩;by_cases c:s=o.exp
   ·simp[zCI,ztI,e,zxX,nGet,zus,nPut,nCas,c,ha]
   ·simp[zCI,ztI,e,zxX,nGet,zus,nPut,nCas,c,hc,hs]
def lkT (s:Bool×Int):List UInt8:=if s.1=true then Lib.itoa s.2 else [45]
def lkG (s:Bool×Int):Prop:=wf64 s.2∧(s.1=false→s.2=0)
theorem zFR (ops:List OpV)(h:∀o∈ops,OkM zyy o):Sim lkDo (false,0) lkT lkG zyy ops where
 good0:=⟨wf_zero,fun _=>rfl⟩
 first:=by decide
 inj:=by
  rintro⟨b,x⟩ ⟨b',y⟩ ⟨h1,h1'⟩ ⟨h2,h2'⟩ e;unfold lkT at e;cases b<;>cases b'<;>simp at e h1 h2 h1' h2'⊢
  ·rw[h1',h2']
  ·exact absurd e.symm (zGn h2)
  ·exact absurd e (zGn h1)
  ·exact zH8 h1 h2 e
 step:=by
  rintro⟨b,x⟩ o ⟨hs,hz⟩ ho;obtain⟨hn,_,hc⟩:=h o ho;simp only at hs hz;rcases(zWu hn).2.2 rfl with e|e
  ·cases b
   ·have:=hz rfl;simp[lkDo,ztI,e,zxX,nGet,zus,nPut,nCas,nDel,nEnq,nDeq,nAdd,nRem,nHas,nAcq,lkT,lkG,hc]
   ·simp[lkDo,ztI,e,zxX,nGet,zus,nPut,nCas,nDel,nEnq,nDeq,nAdd,nRem,nHas,nAcq,lkT,lkG,hs,zGn hs]
  ·cases b
   ·have hb:([45]:List UInt8)≠Lib.itoa o.cl:=fun e=>zGn hc e.symm;have:=hz rfl;simp[lkDo,ztI,e,zxX,nGet,zus,nPut,nCas,nDel,nEnq,nDeq,nAdd,nRem,nHas,nAcq,nRel,lkT,lkG,this,wf_zero];simpa using hb
   ·have hq:(Lib.itoa x=Lib.itoa o.cl)↔x=o.cl:=⟨zH8 hs hc,fun e=>by rw[e]⟩;by_cases c:x=o.cl
    ·simp[lkDo,ztI,e,zxX,nGet,zus,nPut,nCas,nDel,nEnq,nDeq,nAdd,nRem,nHas,nAcq,nRel,lkT,lkG,c,wf_zero]
    ·simp[lkDo,ztI,e,zxX,nGet,zus,nPut,nCas,nDel,nEnq,nDeq,nAdd,nRem,nHas,nAcq,nRel,lkT,lkG,c,hq,hs]
theorem zWw (b:UInt8)(l:List UInt8):Lib.index (b::l) [44]=if b=44 then 0 else if Lib.index l [44]= -1 then -1 else Lib.index l [44]+1:=by
 rw[Lib.index];by_cases hb:b=44
 ·subst hb;simp[List.isPrefixOf]
 ·have:([44]:List UInt8).isPrefixOf (b::l)=false:=by
   simp only [List.isPrefixOf,Bool.and_true];rw[beq_eq_false_iff_ne];exact fun e=>hb e.symm
  rw[this,if_neg hb];simp only [Bool.false_eq_true,if_false,beq_iff_eq]
theorem z4M (s:List UInt8):(Lib.cut s [44]).1=(zN3 s).1∧(Lib.cut s [44]).2.1=(zN3 s).2:=by
 induction s with
 |nil=>exact⟨by decide,by decide⟩
 |cons b l ih=>
   unfold Lib.cut at ih⊢;rw[zWw,zN3];by_cases hb:b=44
   ·rw[if_pos hb,if_pos hb];simp
   ·rw[if_neg hb,if_neg hb];have hge:=Lib.index_ge l [44];by_cases hi:Lib.index l [44]= -1
    ·rw[hi]at ih;rw[if_pos hi];simp at ih⊢;exact⟨ih.1,ih.2⟩
    ·rw[if_pos (show 0≤Lib.index l [44] by omega)]at ih;rw[if_neg hi,if_pos (by omega)];have e:(Lib.index l [44]+1).toNat=(Lib.index l [44]).toNat+1:=(by omega);rw[e];simp at ih⊢;exact ih
def quT:List Int→List UInt8
 | []=>[]
 | [x]=>Lib.itoa x
 |x::y::r=>Lib.itoa x++[44]++quT (y::r)
def quG (s:List UInt8):Prop:=∃xs:List Int,(∀x∈xs,wf64 x)∧s=quT xs
theorem zOC (x:Int)(r:List Int)(h:r≠[]):quT (x::r)=Lib.itoa x++[44]++quT r:=by
 cases r with
 |nil=>exact absurd rfl h
 |cons y r=>rfl
theorem zlj {x:Int}(hx:wf64 x)(r:List Int):quT (x::r)≠[]:=by
 cases r with
 |nil=>exact z2w hx
 |cons y r=>simp[quT]
theorem zTj (xs:List Int)(h:∀x∈xs,wf64 x)(a:Int):quT (xs++[a])=if quT xs=[]then Lib.itoa a else quT xs++[44]++Lib.itoa a:=by
 induction xs with
 |nil=>simp[quT]
 |cons x r ih=>
   rw[if_neg (zlj (h x (by simp)) r),List.cons_append,zOC x _ (by simp),ih (fun y hy=>h y (by simp[hy]))];cases r with
   |nil=>simp[quT]
   |cons y r=>
     rw[if_neg (zlj (h y (by simp)) r),zOC x (y::r) (by simp)];simp
theorem zoP {a:Int}:∀c∈Lib.itoa a,c≠44:=by
 intro c hc;unfold Lib.itoa at hc;split at hc
 ·rcases List.mem_cons.1 hc with rfl|hc
  ·decide
  ·exact(zot _).2.2.2 c hc
 ·exact(zot _).2.2.2 c hc
theorem z89 (a b:List UInt8)(h:∀c∈a,c≠44):zN3 (a++44::b)=(a,b):=by
 induction a with
 |nil=>simp[zN3]
 |cons c t ih=>
   rw[List.cons_append,zN3,if_neg (h c (by simp)),ih (fun x hx=>h x (by simp[hx]))]
theorem zn4 (x:Int)(r:List Int):zN3 (quT (x::r))=(Lib.itoa x,quT r):=by
 cases r with
 |nil=>exact zPM _ zoP
 |cons y r=>
   rw[zOC x _ (by simp),List.append_assoc];exact z89 _ _ zoP
theorem zSZ (ops:List OpV)(h:∀o∈ops,OkM zsK o):Sim quDo [] id quG zsK ops where
 good0:=⟨[],by simp,rfl⟩
 first:=by decide
 inj:=fun s s' _ _ e=>e
 step:=by
  rintro s o ⟨xs,hxs,rfl⟩ ho;obtain⟨hn,ha,_⟩:=h o ho;rcases(zWu hn).2.1 rfl with e|e
  ·have hq:quG (if quT xs=[]then Lib.itoa o.arg else quT xs++[44]++Lib.itoa o.arg):=⟨xs++[o.arg],fun x hx=>by
    rcases List.mem_append.1 hx with hx|hx
    ·exact hxs x hx
    ·rw[List.mem_singleton]at hx;rw[hx];exact ha,(zTj xs hxs o.arg).symm⟩
   by_cases c:quT xs=[]
   ·rw[if_pos c]at hq;simp[quDo,ztI,e,zxX,nGet,zus,nPut,nCas,nDel,nEnq,c,hq]
   ·rw[if_neg c,List.append_assoc]at hq;simp[quDo,ztI,e,zxX,nGet,zus,nPut,nCas,nDel,nEnq,c];simpa using hq
  ·obtain⟨c1,c2⟩:=z4M (quT xs);cases xs with
   |nil=>
     have hN:(decP (zN3 (quT [])).1).isSome=false:=(by decide);have hV:numV (zN3 (quT [])).1=(0,0):=(by decide);have hG:quG (quT []):=⟨[],by simp,rfl⟩;have hR:(zN3 (quT [])).2=quT []:=(by decide);simp only [quDo,ztI,e,zxX,nGet,zus,nPut,nCas,nDel,nEnq,nDeq,c1,hN,hV,hR,id];simp[hG]
   |cons x r=>
     rw[zn4]at c1 c2;have hG:quG (quT r):=⟨r,fun y hy=>hxs y (by simp[hy]),rfl⟩;have hx:=hxs x (by simp);simp[quDo,ztI,e,zxX,nGet,zus,nPut,nCas,nDel,nEnq,nDeq,c1,c2,z15 hx,zm2 hx,zn4,hG]
open srch (stDo zqY tI)
theorem zk9 {m:List UInt8}{o:OpV}(h:okN m o):(m=sKv→o.name=nGet∨o.name=nPut∨o.name=nDel)∧(m=sSet→o.name=nAdd∨o.name=nRem∨o.name=nHas):=by
 obtain⟨⟨r,hr,h1,h2⟩,_⟩:=h;rw[←h2];simp only [opTab,List.mem_cons,List.not_mem_nil,or_false]at hr;refine⟨fun e=>?_,fun e=>?_⟩
 all_goals
  subst e;rcases hr with rfl|rfl|rfl|rfl|rfl|rfl|rfl|rfl|rfl|rfl|rfl|rfl|rfl<;>first|(exact absurd h1 (by decide))|simp[nGet,nPut,nDel,nAdd,nRem,nHas]
theorem zcf:numV [45]=(0,0):=by decide
theorem zpM (ops:List OpV)(h:∀o∈ops,OkM sKv o):Sim stDo (false,0) lkT lkG sKv ops where
 good0:=⟨wf_zero,fun _=>rfl⟩
 first:=by decide
 inj:=by
  rintro⟨b,x⟩ ⟨b',y⟩ ⟨h1,h1'⟩ ⟨h2,h2'⟩ e;unfold lkT at e;cases b<;>cases b'<;>simp at e h1 h2 h1' h2'⊢
  ·rw[h1',h2']
  ·exact absurd e.symm (zGn h2)
  ·exact absurd e (zGn h1)
  ·exact zH8 h1 h2 e
 step:=by
  rintro⟨b,x⟩ o ⟨hs,hz⟩ ho;obtain⟨hn,ha,_⟩:=h o ho;simp only at hs hz;rcases(zk9 hn).1 rfl with e|e|e
  ·cases b
   ·have:=hz rfl;simp[stDo,ztI,e,zxX,nGet,lkT,lkG,zcf,this,wf_zero]
   ·simp[stDo,ztI,e,zxX,nGet,lkT,lkG,hs,zm2 hs]
  ·simp[stDo,ztI,e,zxX,nGet,zus,nPut,lkT,lkG,ha]
  ·cases b
   ·simp[stDo,ztI,e,zxX,nGet,zus,nPut,nCas,nDel,lkT,lkG,wf_zero,tI]
   ·simp[stDo,ztI,e,zxX,nGet,zus,nPut,nCas,nDel,lkT,lkG,wf_zero,tI,zGn hs]
def setT (s:Bool):List UInt8:=if s=true then [49]else [48]
theorem zuQ (ops:List OpV)(h:∀o∈ops,OkM sSet o):Sim zqY false setT (fun _=>True) sSet ops where
 good0:=trivial
 first:=by decide
 inj:=by
  rintro s s' _ _ e;cases s<;>cases s'<;>simp[setT]at e⊢
 step:=by
  rintro s o _ ho;obtain⟨hn,_,_⟩:=h o ho;rcases(zk9 hn).2 rfl with e|e|e
  all_goals cases s<;>simp[zqY,ztI,e,zxX,nGet,zus,nPut,nCas,nDel,nEnq,nDeq,nAdd,nRem,nHas,setT,tI]
open srch (Legal LinP Judged say ordO zBL zoi idsT ziO flt qKey zD5 z4U z1b zMI mergeP)
def plK (ops:List OpV)(k:List UInt8):List Nat:=(List.range ops.length).filter (fun i=>decide ((ops[i]?.map (·.key))=some k))
theorem zdI (ops:List OpV)(k:List UInt8):(plK ops k).Nodup:=List.nodup_range.filter _
theorem za4 (ops:List OpV)(k:List UInt8):(plK ops k).map (fun i=>ops[i]?)=(flt k ops).map some:=by
 have key:∀n,n≤ops.length→((List.range n).filter (fun i=>decide ((ops[i]?.map (·.key))=some k))).map (fun i=>ops[i]?)=(flt k (ops.take n)).map some:=by
  intro n
  induction n with
  |zero=>intro _;simp[flt]
  |succ n ih=>
    intro hn;have hn':n<ops.length:=(by omega);rw[List.range_succ,List.filter_append,List.map_append,ih (by omega),List.take_succ_eq_append_getElem hn',srch.flt_snoc];by_cases h:ops[n].key=k
    ·rw[if_pos h,List.filter_cons_of_pos (by simp[zC hn',h])];simp[zC hn']
    ·rw[if_neg h,List.filter_cons_of_neg (by simp[zC hn',h])];simp
 have:=key ops.length zG;rw[List.take_length]at this;exact this
theorem zqz (ops:List OpV)(k:List UInt8):zrE ops (plK ops k) (flt k ops):=by
 have e:=za4 ops k;refine⟨by have:=congrArg List.length e;simpa using this,fun i o h=>?_⟩;have h2:=congrArg (fun l=>l[i]?) e;simp only [List.getElem?_map,h,Option.map_some]at h2;cases hp:(plK ops k)[i]? with
 |none=>rw[hp]at h2;simp at h2
 |some p=>rw[hp]at h2;exact⟨p,rfl,by simpa using h2⟩
theorem zg1 {ops:List OpV}{k:List UInt8}{i:Nat}{o:OpV}(h:ops[i]?=some o):i∈plK ops k↔o.key=k:=by
 unfold plK;rw[List.mem_filter];obtain⟨hl,he⟩:=zB h;simp[hl,he]
theorem zay {ops:List OpV}(hd:ops.Nodup){k:List UInt8}{ord:List OpV}(hs:∀o∈ord,o∈flt k ops):zBw ops ord=(zBw (flt k ops) ord).map (fun i=>(plK ops k)[i]?.getD 0):=by
 unfold zBw;rw[List.map_map];refine List.map_congr_left (fun o ho=>?_);show ops.idxOf o=(plK ops k)[(flt k ops).idxOf o]?.getD 0;obtain⟨p,h1,h2⟩:=(zqz ops k).2 _ _ (zsl (hs o ho));rw[h1];exact srch.nodup_at hd (zsl (List.mem_of_getElem? h2)) h2
inductive FitK (m:List UInt8)(ops:List OpV)(K:List (List UInt8))(nm:List UInt8→List UInt8)(b:Int)(ans:List UInt8):Prop
 |unk (e:ans=sUnk) (h:∀f:List UInt8→List Cf×Bool,(∀k∈K,Cfs m (flt k ops) (roomP ops.length) (f k).1 (f k).2)→min b 1000000<((2*(ops.length+1)*((K).map (fun k=>(f k).1.length)).sum:Nat):Int))
 |ok (Q:List OpV) (pl:List Nat) (e:ans=sOrdJ++idsT Q++[10]) (hQ:zrE ops pl Q) (hn:pl.Nodup) (hl:Q.length≤1000) (ho:z8Z Q) (ha:∀k∈K,∃cE,zdl (plK ops k) (flt k ops) (cf0 m (flt k ops)) (pl.filter (fun i=>decide (i∈plK ops k)))=some cE∧z0d (flt k ops) cE.1=true)
 | ill (K1 K2:List (List UInt8)) (k:List UInt8) (Q:List OpV) (pl:List Nat) (cE:Cf) (hK:K=K1++k::K2) (e:ans=zRS++nm k++z5z++idsT Q++[10]) (hQ:zrE ops pl Q) (hn:pl.Nodup) (hl:Q.length≤1000) (ha:zdl (plK ops k) (flt k ops) (cf0 m (flt k ops)) pl=some cE)
   (hk:∀L kn,Cfs m (flt k ops) (roomP ops.length) L kn→kn=true→isP (flt k ops) L=false∧pl.length=mostP L) (hp:∀k'∈K1,∀L kn,Cfs m (flt k' ops) (roomP ops.length) L kn→kn=true→isP (flt k' ops) L=true)
theorem zH0 (l:List OpV):(zD5 l).Nodup:=by
 unfold zD5;exact(List.mergeSort_perm _ _).nodup_iff.2 (z1b l)
section
variable {σ:Type} [DecidableEq σ] {doit:σ→OpV→σ×Int×Int} {s0:σ} {txt:σ→List UInt8} {good:σ→Prop} {m:List UInt8} {ops:List OpV}
theorem zxU (k:List UInt8)(l:List OpV):∀o∈flt k l,o∈l∧o.key=k:=fun o h=>by
 unfold flt at h;simpa using h
theorem z9n {P:List OpV}(h:Sim doit s0 txt good m P)(hd:P.Nodup){N:Nat}(hn:N≤128)(hP:P.length≤N){b:Int}{r:srch.Out}(hf:srch.Found doit (ordO P) s0 b r){L:List Cf}{kn:Bool}(hC:Cfs m P (roomP N) L kn):
 0<L.length∧(kn=false→1000000<2*(N+1)*L.length)∧(kn=true→(r.verdict=0→b≤0∨b<(N*L.length:Nat))∧(r.verdict≠0→b-r.left≤(N*L.length:Nat))):=by
 have hpos:0<L.length:=List.length_pos_iff.2 (fun e=>by have:=hC.has;rw[e]at this;cases this);refine⟨hpos,fun hk=>?_,fun hk=>?_⟩
 ·subst hk;have hr2:¬L.length≤roomP N:=by have:=hC.room;simpa using this
  exact zOc N L.length (by omega)
 ·subst hk;have hp:=zBL P;have hn':(ordO P).length≤128:=by rw[hp.length_eq];omega
  obtain⟨vis,h1,h2,h3⟩:=srch.Found.told doit _ hn' hf;have hle:=zPY h hd (by omega) hC vis h1 h2;have hmul:P.length*vis.length≤N*L.length:=Nat.mul_le_mul hP hle;rw[hp.length_eq]at h3;rcases h3 with ⟨h4,h3⟩|⟨h4,h3,_⟩|⟨h4,h3,_⟩
  ·refine⟨fun _=>?_,fun hh=>absurd h4 hh⟩;rcases h3 with h3|h3
   ·exact .inl h3
   ·right;omega
  ·exact⟨fun hh=>by omega,fun _=>by omega⟩
  ·exact⟨fun hh=>by omega,fun _=>by omega⟩
omit [DecidableEq σ] in
theorem zSa {P:List OpV}(h:Sim doit s0 txt good m P)(hd:P.Nodup)(hret:∀o∈P,0≤o.ret){room:Nat}{L:List Cf}(hC:Cfs m P room L true)(hl:LinP doit s0 P):isP P L=true:=by
 obtain⟨ord,hL,hw⟩:=hl;unfold isP;rw[List.any_eq_true];exact⟨_,zmq h hd hC _ ord rfl hL,(zS7 hret).2 hw⟩
omit [DecidableEq σ] in
theorem zGU {P:List OpV}(h:Sim doit s0 txt good m P)(hd:P.Nodup)(hret:∀o∈P,0≤o.ret){room:Nat}{L:List Cf}(hC:Cfs m P room L true){ord:List OpV}(hL:Legal doit s0 P ord)(hno:¬LinP doit s0 P)(hmax:∀o,Legal doit s0 P o→o.length≤ord.length):isP P L=false∧ord.length=mostP L:=by
 refine⟨?_,?_⟩
 ·rw[Bool.eq_false_iff];intro hi;exact hno (zfe h hd hret hC hi)
 ·unfold mostP;apply Nat.le_antisymm
  ·have:=(z3f L 0).1 _ (zmq h hd hC _ _ rfl hL);rw[show(zSj doit s0 txt P ord).1=zQ0 P ord from rfl,z3r hd hL.nd hL.sub]at this;exact this
  ·refine zkI L _ (fun c hc=>?_) 0 (Nat.zero_le _);obtain⟨o,hL2,rfl⟩:=zXu h hd hret (hC.all c hc);rw[show(zSj doit s0 txt P o).1=zQ0 P o from rfl,z3r hd hL2.nd hL2.sub];exact hmax o hL2
theorem zoI (f:List UInt8→Nat){l:List (List UInt8)}{k:List UInt8}(h:k∈l):f k≤(l.map f).sum:=by
 induction l with
 |nil=>cases h
 |cons a r ih=>
   rw[List.map_cons,List.sum_cons];rcases List.mem_cons.1 h with rfl|h
   ·omega
   ·have:=ih h;omega
theorem zSi (K:List (List UInt8))(g:List UInt8→List OpV)(hK:K.Nodup)(h1:∀k∈K,(g k).Nodup)(h2:∀k∈K,∀o∈g k,o.key=k):(K.map g).flatten.Nodup:=by
 induction K with
 |nil=>exact List.nodup_nil
 |cons k r ih=>
   rw[List.nodup_cons]at hK;rw[List.map_cons,List.flatten_cons,List.nodup_append];refine⟨h1 k (by simp),ih hK.2 (fun x hx=>h1 x (by simp[hx])) (fun x hx=>h2 x (by simp[hx])),fun a ha b hb e=>?_⟩;subst e;obtain⟨l,hl,hb⟩:=List.mem_flatten.1 hb;obtain⟨x,hx,rfl⟩:=List.mem_map.1 hl;have e1:=h2 k (by simp) a ha;have e2:=h2 x (by simp[hx]) a hb;exact hK.1 (by rw[←e1,e2];exact hx)
structure DoneK (doit:σ→OpV→σ×Int×Int)(s0:σ)(m:List UInt8)(ops:List OpV)(B b:Int)(K1:List (List UInt8))(g:List UInt8→List OpV):Prop where
 leg:∀k∈K1,Legal doit s0 (flt k ops) (g k)∧(∀o∈flt k ops,o.ret≠0→o∈g k)∧LinP doit s0 (flt k ops)
 cost:∀f:List UInt8→List Cf×Bool,(∀k∈K1,Cfs m (flt k ops) (roomP ops.length) (f k).1 (f k).2)→(∀k∈K1,(f k).2=true)→B-b≤((ops.length*(K1.map (fun k=>(f k).1.length)).sum:Nat):Int)
theorem z1V {K:List (List UInt8)}{nm:List UInt8→List UInt8}(hKn:K.Nodup)(hS:∀k,Sim doit s0 txt good m (flt k ops))(hd:ops.Nodup)(hn:ops.length≤128)(hret:∀o∈ops,0≤o.ret)(hcl:∀o∈ops,0<o.ret→o.call≤o.ret){b0:Int}(K2:List (List UInt8)):
 ∀(K1:List (List UInt8)) (b:Int) (g:List UInt8→List OpV) (v:Nat×List UInt8×List (List OpV)),K=K1++K2→DoneK doit s0 m ops (min b0 1000000) b K1 g→
  Judged (fun p b r=>srch.Found doit (ordO p) s0 b r) (K2.map (fun k=>(nm k,flt k ops))) b (K1.map g) v→FitK m ops K nm b0 (say v):=by
 have hdk:∀k,(flt k ops).Nodup:=fun k=>hd.filter _;have hlk:∀k,(flt k ops).length≤ops.length:=fun k=>List.length_filter_le _ _;have hrk:∀k,∀o∈flt k ops,0≤o.ret:=fun k o ho=>hret o (zxU k ops o ho).1
 induction K2 with
 |nil=>
   intro K1 b g v hK hD hj;rw[List.append_nil]at hK;cases hj;have hsubg:∀k∈K1,∀o∈g k,o∈ops∧o.key=k:=fun k hk o ho=>zxU k ops o ((hD.leg k hk).1.sub o ho);have hKn:K1.Nodup:=(by rw[←hK];exact hKn);have hfl:(K1.map g).flatten.Nodup:=zSi K1 g hKn (fun k hk=>(hD.leg k hk).1.nd) (fun k hk o ho=>(hsubg k hk o ho).2);have hperm:=zep hfl;have hin:∀o∈mergeP (K1.map g),∃k∈K1,o∈g k:=fun o ho=>by
    obtain⟨l,hl,ho⟩:=List.mem_flatten.1 (hperm.mem_iff.1 ho);obtain⟨k,hk,rfl⟩:=List.mem_map.1 hl;exact⟨k,hk,ho⟩
   have hsub:∀o∈mergeP (K1.map g),o∈ops:=fun o ho=>by
    obtain⟨k,hk,ho⟩:=hin o ho;exact(hsubg k hk o ho).1
   have hnd:(mergeP (K1.map g)).Nodup:=hperm.nodup_iff.2 hfl;refine .ok (mergeP (K1.map g)) (zBw ops (mergeP (K1.map g))) ?_ (z7o hsub) (zcP hsub hnd) (by have:=ziO _ ops hnd hsub;omega) (zrX hfl (fun l hl=>?_) (fun l hl o ho=>?_)) (fun k hk=>?_)
   ·unfold say;rw[if_neg (show ¬(1:Nat)=0 by decide),if_neg (show ¬(1:Nat)=2 by decide)];rfl
   ·obtain⟨k,hk,rfl⟩:=List.mem_map.1 hl;exact zHo (hD.leg k hk).1
   ·obtain⟨k,hk,rfl⟩:=List.mem_map.1 hl;exact hcl o (hsubg k hk o ho).1
   ·rw[hK]at hk;obtain⟨hL,hw,_⟩:=hD.leg k hk;have hfil:(zBw ops (mergeP (K1.map g))).filter (fun i=>decide (i∈plK ops k))=zBw ops (g k):=by
     have hq:(mergeP (K1.map g)).filter (fun o=>decide (ops.idxOf o∈plK ops k))=g k:=by
      refine Eq.trans (List.filter_congr (fun o ho=>?_)) (zCR hfl (List.mem_map_of_mem hk));have hmem:=zg1 (k:=k) (zsl (hsub o ho));show decide (ops.idxOf o∈plK ops k)=decide (o∈g k);rw[decide_eq_decide,hmem];constructor
      ·intro e;obtain⟨k',hk',ho'⟩:=hin o ho;have:=(hsubg k' hk' o ho').2;rw[e]at this;rw[this];exact ho'
      ·intro h;exact(hsubg k hk o h).2
     unfold zBw;rw[List.filter_map];exact congrArg (List.map (fun o=>ops.idxOf o)) hq
    refine⟨zSj doit s0 txt (flt k ops) (g k),?_,(zS7 (hrk k)).2 hw⟩;rw[hfil,zay hd hL.sub,z0W (zdI ops k) (zqz ops k).1 _ _ (fun i hi=>?_)]
    ·exact z32 (hS k) (hdk k) _ _ rfl hL
    ·unfold zBw at hi;obtain⟨o,ho,rfl⟩:=List.mem_map.1 hi;exact List.idxOf_lt_length_iff.2 (hL.sub o ho)
 |cons k K2 ih=>
   intro K1 b g v hK hD hj;cases hj with
   |unknown _ _ _ _ _ r hr hv=>
     refine .unk (by unfold say;rfl) (fun f hf=>?_);have hks:k∈K:=(by rw[hK];simp);obtain⟨p1,p2,p3⟩:=z9n (hS k) (hdk k) hn (hlk k) hr (hf k hks);have hsum:((K).map (fun k=>(f k).1.length)).sum=(K1.map (fun k=>(f k).1.length)).sum+((f k).1.length+(K2.map (fun k=>(f k).1.length)).sum):=(by rw[hK];simp);by_cases hall:∀k∈K,(f k).2=true
     ·have hc:=hD.cost f (fun k' hk'=>hf k' (by rw[hK];simp[hk'])) (fun k' hk'=>hall k' (by rw[hK];simp[hk']));have h0:=(p3 (hall k hks)).1 hv;rw[hsum];generalize (K1.map (fun k=>(f k).1.length)).sum=s1 at*;generalize (K2.map (fun k=>(f k).1.length)).sum=s2 at*;generalize (f k).1.length=x at*;generalize ops.length=N at*;have e1:2*(N+1)*(s1+(x+s2))=N*s1+N*x+(N*s1+N*x+2*(N*s2)+2*(s1+(x+s2))):=by
       simp only [Nat.mul_add,Nat.add_mul,Nat.mul_assoc];omega
      rw[e1];generalize N*s1=y1 at*;generalize N*x=y2 at*;generalize N*s2=y3 at*;omega
     ·obtain⟨k',hk',hf'⟩:∃k'∈K,(f k').2=false:=by
       apply Decidable.byContradiction;intro hno;apply hall;intro k' hk';cases e:(f k').2 with
       |true=>rfl
       |false=>exact absurd ⟨k',hk',e⟩ hno
      have hC:=hf k' hk';have hr2:¬(f k').1.length≤roomP ops.length:=(by have:=hC.room;rw[hf']at this;simpa using this);have hbig:=zOc ops.length (f k').1.length (by omega);have hle:=zoI (fun k=>(f k).1.length) hk';have:=Nat.mul_le_mul_left (2*(ops.length+1)) hle;omega
   |illegal _ _ _ _ _ r hr hv=>
     obtain⟨_,h2,hL,_,h5⟩:=zoi doit (by have:=hlk k;omega) (hdk k) hr (by omega);have hsub:∀o∈r.order,o∈ops:=fun o ho=>(zxU k ops o (hL.sub o ho)).1;refine .ill K1 K2 k r.order (zBw ops r.order) (zSj doit s0 txt (flt k ops) r.order) hK (by unfold say;rfl) (z7o hsub) (zcP hsub hL.nd) (by have:=ziO _ ops hL.nd hsub;omega) ?_ (fun L kn hC hk=>?_) (fun k' hk' L kn hC hk=>?_)
     ·rw[zay hd hL.sub,z0W (zdI ops k) (zqz ops k).1 _ _ (fun i hi=>?_)]
      ·exact z32 (hS k) (hdk k) _ _ rfl hL
      ·unfold zBw at hi;obtain⟨o,ho,rfl⟩:=List.mem_map.1 hi;exact List.idxOf_lt_length_iff.2 (hL.sub o ho)
     ·subst hk;rw[show(zBw ops r.order).length=r.order.length by simp[zBw]];exact zGU (hS k) (hdk k) (hrk k) hC hL (h2.1 hv) (h5 hv)
     ·subst hk;exact zSa (hS k') (hdk k') (hrk k') hC (hD.leg k' hk').2.2
   |next _ _ _ _ _ r v hr hv hr2=>
     obtain⟨h1,_,hL,h4,_⟩:=zoi doit (by have:=hlk k;omega) (hdk k) hr (by omega);have hkn:k∉K1:=fun hm=>by
      have:=hKn;rw[hK,List.nodup_append]at this;exact this.2.2 k hm k (by simp) rfl
     have hg:∀k'∈K1,(if k'=k then r.order else g k')=g k':=fun k' hk'=>if_neg (fun e=>hkn (by rw[←e];exact hk'));have hacc:K1.map g++[r.order]=(K1++[k]).map (fun k'=>if k'=k then r.order else g k'):=by
      rw[List.map_append,List.map_singleton,if_pos rfl];congr 1;exact List.map_congr_left (fun k' hk'=>(hg k' hk').symm)
     rw[hacc]at hr2;refine ih (K1++[k]) r.left (fun k'=>if k'=k then r.order else g k') v (by rw[hK];simp) ⟨fun k' hk'=>?_,fun f hf hkn'=>?_⟩ hr2
     ·rcases List.mem_append.1 hk' with hk'|hk'
      ·rw[hg k' hk'];exact hD.leg k' hk'
      ·rw[List.mem_singleton]at hk';subst hk';rw[if_pos rfl];exact⟨hL,h4 hv,h1.1 hv⟩
     ·have hc:=hD.cost f (fun k' hk'=>hf k' (by simp[hk'])) (fun k' hk'=>hkn' k' (by simp[hk']));have hp:=((z9n (hS k) (hdk k) hn (hlk k) hr (hf k (by simp))).2.2 (hkn' k (by simp))).2 (by omega);rw[List.map_append,List.sum_append,List.map_singleton,List.sum_singleton,Nat.mul_add];omega
end
end Go.Proofs.YtbbkihekjdffpaaGreatDoor.jd
