/- Several texts in one. -/
import Derived.Test.YtoeoinpaidhmcaaGreatDoorSrchYGG
import Derived.Test.YtoeoinpaidhmcaaGreatDoorSrchYR
import Derived.Laws.Bits64b
set_option maxHeartbeats 8000000
set_option maxRecDepth 1000000
namespace Go.Proofs.YtoeoinpaidhmcaaGreatDoor.srch
open Go.RowKit
theorem bit_of (x:Nat)(a:x<18446744073709551616)(k:Nat):(bits .and .u64 ((x:Int)/2 ^ k) 1 != 0)=x.testBit k:=by
 have e:((x:Int)/2 ^ k)=((x/2 ^ k:Nat):Int):=by norm_cast
 rw[e,show(1:Int)=((1:Nat):Int)from rfl,bits_and_u64_nat _ _ (Nat.lt_of_le_of_lt (Nat.div_le_self _ _) a) (by omega)];rw[Nat.testBit,Nat.shiftRight_eq_div_pow,Nat.and_comm];cases h:(1 &&& x/2 ^ k)with
 |zero=>simp
 |succ n=>simp;omega
theorem z86 (k:Nat)(h:k<64):IntKind.u64.wrap (2 ^ k)=((2 ^ k:Nat):Int):=by
 have a:2 ^ k<18446744073709551616:=Nat.pow_lt_pow_right (m:=k) (n:=64) (by omega) h;rw[IntKind.wrap_u64];have e:((2:Int) ^ k)=((2 ^ k:Nat):Int):=by norm_cast
 rw[e];generalize 2 ^ k=z at a⊢;omega
theorem zMj (x:Nat)(b:x<18446744073709551616)(k:Nat)(a:k<64):bits .or .u64 (x:Int) (IntKind.u64.wrap (2 ^ k))=((x ||| 2 ^ k:Nat):Int):=by
 have d:2 ^ k<2 ^ 64:=Nat.pow_lt_pow_right (by omega) a;rw[z86 k a];exact bits_or_u64_nat x (2 ^ k) b (by omega)
theorem zx7 {g:Gr}(j:wfG g)(p q:Nat)(o:p<128)(r:q<128):gHas (zdS g p) q=(decide (p=q)||gHas g q):=by
 obtain⟨x,y⟩:=g;obtain⟨⟨i,l⟩,h,m⟩:=j;dsimp only at i l h m;obtain⟨x,rfl⟩:=Int.eq_ofNat_of_zero_le i;obtain⟨y,rfl⟩:=Int.eq_ofNat_of_zero_le h;have e:x<18446744073709551616:=by omega
 have d:y<18446744073709551616:=by omega
 have b:∀z k:Nat,z<18446744073709551616→k<64→z ||| 2 ^ k<18446744073709551616:=fun z k hz hk=>Nat.or_lt_two_pow (n:=64) hz (Nat.pow_lt_pow_right (by omega) hk);have a:p%64<64:=Nat.mod_lt _ (by omega);unfold gHas zdS;dsimp only;by_cases h1:p<64
 ·rw[if_pos h1];dsimp only;rw[zMj x e _ a];by_cases h2:q<64
  ·rw[if_pos h2,if_pos h2,bit_of _ (b x _ e a),bit_of x e,Nat.testBit_or,Nat.testBit_two_pow,Bool.or_comm];congr 1;rw[Nat.mod_eq_of_lt h1,Nat.mod_eq_of_lt h2]
  ·rw[if_neg h2,if_neg h2];have:decide (p=q)=false:=decide_eq_false (by omega);rw[this];rfl
 ·rw[if_neg h1];dsimp only;rw[zMj y d _ a];by_cases h2:q<64
  ·rw[if_pos h2,if_pos h2];have:decide (p=q)=false:=decide_eq_false (by omega);rw[this];rfl
  ·rw[if_neg h2,if_neg h2,bit_of _ (b y _ d a),bit_of y d,Nat.testBit_or,Nat.testBit_two_pow,Bool.or_comm];congr 1;apply decide_eq_decide.2;omega
theorem z4a (q:Nat):gHas (0,0) q=false:=by
 unfold gHas;have h:=bit_of 0 (by omega) (q%64);split<;>· rw[show(((0:Nat):Int))=0 from rfl]at h;rw[h];exact Nat.zero_testBit _
theorem zLl (n:Nat):∀l:List Nat,l.Nodup→(∀x∈l,x<n)→l.length≤n:=by
 induction n with
 |zero=>
   intro l _ h;cases l with
   |nil=>simp
   |cons a t=>exact absurd (h a (by simp)) (by omega)
 |succ n ih=>
   intro l e h;have g:=ih (l.filter (fun x=>x≠n)) (e.filter _) (fun x hx=>by have b:=List.mem_filter.1 hx;have:=h x b.1;have d:x≠n:=(by simpa using b.2);omega);have i:l.count n≤1:=List.nodup_iff_count.1 e n;have d:=List.length_eq_countP_add_countP (fun x=>decide (x≠n)) (l:=l);rw[List.countP_eq_length_filter]at d;have j:List.countP (fun a=>decide ¬(decide (a≠n))=true) l=l.count n:=by
    rw[List.count];congr 1;funext a;by_cases ha:a=n<;>simp[ha]
   omega
section
variable {σ:Type}
def setW (l:List (Stp σ)):Gr:=l.foldl (fun g s=>zdS g s.pl) (0,0)
theorem zgr (l:List (Stp σ))(q:Nat)(d:q<128):∀g:Gr,wfG g→(∀s∈l,s.pl<128)→gHas (l.foldl (fun g s=>zdS g s.pl) g) q=(decide (q∈l.map (·.pl))||gHas g q):=by
 induction l with
 |nil=>intro g _ _;simp
 |cons s t ih=>
   intro g a b;rw[List.foldl_cons,ih _ (zgs a _) (fun x hx=>b x (by simp[hx])),zx7 a _ _ (b s (by simp)) d,←Bool.or_assoc];congr 1;rw[show decide (s.pl=q)=decide (q=s.pl)from decide_eq_decide.2 eq_comm];by_cases h1:q∈t.map (·.pl)<;>by_cases h2:q=s.pl<;>simp[h1,h2]
theorem wf_zero:wfG (0,0):=⟨⟨by decide,by decide⟩,by decide,by decide⟩
theorem ztQ (l:List (Stp σ))(q:Nat)(b:q<128)(a:∀s∈l,s.pl<128):gHas (setW l) q=decide (q∈l.map (·.pl)):=by
 unfold setW;rw[zgr l q b _ wf_zero a,z4a,Bool.or_false]
theorem z50 (l:List (Stp σ))(s:Stp σ):setW (l++[s])=zdS (setW l) s.pl:=by
 unfold setW;rw[List.foldl_append];rfl
structure Inv (ops:List OpV)(m:Mch σ):Prop where
 here:m.here.1=setW m.way
 nd:(m.way.map (·.pl)).Nodup
 lt:∀s∈m.way,s.pl<ops.length
 pre:∀l s l',m.way=l++s::l'→s.g=setW l
 lng:m.longest.length≤ops.length∧∀o∈m.longest,o∈ops
theorem z0Wo {l:List (Stp σ)}{n:Nat}(a:(l.map (·.pl)).Nodup)(b:∀s∈l,s.pl<n):l.length≤n:=by
 have:=zLl n _ a (fun x hx=>by obtain⟨s,d,rfl⟩:=List.mem_map.1 hx;exact b s d);simpa using this
theorem zke {l:List (Stp σ)}(a:List OpV)(b:(l.map (·.pl)).Nodup)(d:∀s∈l,s.pl<a.length):(takenL a l).length≤a.length∧∀o∈takenL a l,o∈a:=by
 refine⟨Nat.le_trans (List.length_filterMap_le _ _) (z0Wo b d),fun o ho=>?_⟩;obtain⟨s,_,e⟩:=List.mem_filterMap.1 ho;exact List.mem_of_getElem? e
theorem zYmc [DecidableEq σ](j:σ→OpV→σ×Int×Int)(d:List OpV)(w:d.length≤128){o:OpV}{m:Mch σ}(h:Inv d m)(v:d[m.place]?=some o):Inv d (look j d o m).2:=by
 have r:m.place<d.length:=(zB v).1;unfold look;split
 ·exact⟨h.here,h.nd,h.lt,h.pre,h.lng⟩
 ·rename_i hc;dsimp only;split
  ·exact⟨h.here,h.nd,h.lt,h.pre,h.lng⟩
  ·split
   ·exact⟨h.here,h.nd,h.lt,h.pre,h.lng⟩
   ·have i:gHas m.here.1 m.place=false:=by
     cases hq:gHas m.here.1 m.place with
     |false=>rfl
     |true=>rw[hq]at hc;simp at hc
    have p:m.place∉m.way.map (·.pl):=by
     rw[h.here,ztQ _ _ (by omega) (fun s g=>by have:=h.lt s g;omega)]at i;exact of_decide_eq_false i
    refine⟨?_,?_,?_,?_,h.lng⟩
    ·dsimp only;rw[z50,h.here]
    ·dsimp only;rw[List.map_append,List.nodup_append];refine⟨h.nd,by simp,?_⟩;intro a t b q;simp at q;subst q;intro e;subst e;exact p t
    ·intro s g;rcases List.mem_append.1 g with g|g
     ·exact h.lt s g
     ·rw[List.mem_singleton]at g;subst g;exact r
    ·intro l s u e;dsimp only at e;rcases List.eq_nil_or_concat u with rfl|⟨l2,y,rfl⟩
     ·obtain⟨n,k⟩:=List.append_inj' e rfl;injection k with k;subst n k;exact h.here
     ·rw[List.concat_eq_append,←List.cons_append,←List.append_assoc]at e;obtain⟨n,_⟩:=List.append_inj' e rfl;exact h.pre l s l2 n
theorem zA8 [DecidableEq σ](i:σ→OpV→σ×Int×Int)(d:List OpV)(u:d.length≤128)(f:Nat):∀(b:Int) (j:Bool) (m:Mch σ) (r:Out),Inv d m→srun i d f b j m=some r→r.order.length≤d.length∧(∀o∈r.order,o∈d)∧r.verdict≤2∧(r.left≤b∨r.left=0)∧(b≤r.left∨0≤r.left):=by
 induction f with
 |zero=>intro b j m r _ h;simp[srun]at h
 |succ f ih=>
   intro b j m r a h;cases j with
   |true=>
     unfold srun at h;split at h
     ·injection h with h;subst h;exact⟨(zke d a.nd a.lt).1,(zke d a.nd a.lt).2,(by show 1≤2;omega),Or.inl (Int.le_refl _),Or.inl (Int.le_refl _)⟩
     ·refine ih _ _ _ _ ?_ h;refine⟨a.here,a.nd,a.lt,a.pre,?_⟩;dsimp only;split
      ·exact zke d a.nd a.lt
      ·exact a.lng
   |false=>
     unfold srun at h;cases ho:d[m.place]? with
     |some o=>
       rw[ho]at h;dsimp only at h;split at h
       ·injection h with h;subst h;exact⟨Nat.zero_le _,(fun o ho=>by simp at ho),(by show 0≤2;omega),Or.inr rfl,Or.inr (Int.le_refl _)⟩
       ·obtain⟨p,n,t,y,w⟩:=ih _ _ _ _ (zYmc i d u a ho) h;exact⟨p,n,t,by omega,by omega⟩
     |none=>
       rw[ho]at h;dsimp only at h;cases hl:m.way.getLast? with
       |none=>
         rw[hl]at h;injection h with h;subst h;exact⟨a.lng.1,a.lng.2,(by show 2≤2;omega),Or.inl (Int.le_refl _),Or.inl (Int.le_refl _)⟩
       |some s=>
         rw[hl]at h;dsimp only at h;obtain⟨l,g⟩:∃l,m.way=l++[s]:=List.getLast?_eq_some_iff.1 hl;refine ih _ _ _ _ ?_ h;refine⟨?_,?_,?_,?_,a.lng⟩
         ·dsimp only;rw[g,List.dropLast_concat];exact a.pre l s [] g
         ·dsimp only;have:=a.nd;rw[g,List.map_append,List.nodup_append]at this;rw[g,List.dropLast_concat];exact this.1
         ·intro x k;dsimp only at k;rw[g,List.dropLast_concat]at k;exact a.lt x (by rw[g];simp[k])
         ·intro q x v e;dsimp only at e;rw[g,List.dropLast_concat]at e;exact a.pre q x (v++[s]) (by rw[g,e];simp)
theorem Found.ok [DecidableEq σ]{d:σ→OpV→σ×Int×Int}{a:List OpV}(g:a.length≤128){s0:σ}{b:Int}{r:Out}(h:Found d a s0 b r):r.order.length≤a.length∧(∀o∈r.order,o∈a)∧r.verdict≤2∧(r.left≤b∨r.left=0)∧(b≤r.left∨0≤r.left):=by
 obtain⟨f,h⟩:=h;exact zA8 d a g f b true _ r ⟨rfl,by simp,fun s hs=>by simp at hs,fun l s l' e=>by simp at e,Nat.zero_le _,fun o ho=>by simp at ho⟩ h
end
theorem zQC (s:Int)(o:OpV)(a:wfI s)(b:wfI o.arg):wfI (zCI s o).1:=by
 unfold zCI;split
 ·exact a
 ·split
  ·exact b
  ·split
   ·split
    ·exact b
    ·exact a
   ·exact a
theorem z6C (d:Option Addr)(h:Nat)(part:List OpV)(b:Int)(w:World)(l:OAt w d part)(j:part.length≤128)(i: -9223372036854775808≤b∧b≤1000000)(k:∀o∈part,wfI o.arg):
 Calls Tryz.prog 93 #[.agg #[],.slice d part.length h,.int .i64 b] w fun e w'=>∃r a c,Found zCI (ordO part) 0 b r∧e=.returned (.agg #[.int .i64 (r.verdict:Int),.slice a r.order.length c,.int .i64 r.left])∧OAt w' a r.order∧Below w.heap.size w w'∧∀g,a=some ⟨g,0,none⟩→r.order≠[]→w.heap.size≤g:=
 ztm d h part b w l j i (fun s o ho hs=>zQC s o hs (zRPi (p:=fun o=>wfI o.arg) part ⟨by decide,by decide⟩ k o ho))
theorem zSE (d:Option Addr)(h:Nat)(part:List OpV)(b:Int)(w:World)(k:OAt w d part)(j:part.length≤128)(i: -9223372036854775808≤b∧b≤1000000):
 Calls Tryz.prog 101 #[.agg #[],.slice d part.length h,.int .i64 b] w fun e w'=>∃r a c,Found zqY (ordO part) false b r∧e=.returned (.agg #[.int .i64 (r.verdict:Int),.slice a r.order.length c,.int .i64 r.left])∧OAt w' a r.order∧Below w.heap.size w w'∧∀g,a=some ⟨g,0,none⟩→r.order≠[]→w.heap.size≤g:=
 zXN d h part b w k j i
theorem zzE {σ:Type} [DecidableEq σ]{a:σ→OpV→σ×Int×Int}{part:List OpV}{s0:σ}{b:Int}{r:Out}(l:part.length≤128)(h:Found a (ordO part) s0 b r){p:OpV→Prop}(d:p default)(i:∀o∈part,p o):
 r.order.length≤part.length∧(∀o∈r.order,p o)∧r.verdict≤2∧(r.left≤b∨r.left=0)∧(b≤r.left∨0≤r.left):=by
 have m:=zYV part;obtain⟨k,e,g,j⟩:=Found.ok (by omega) h;exact⟨by omega,fun o ho=>zRPi part d i o (e o ho),g,j⟩
open Go.RowKit Go.Maps
theorem forthR_any (x y:Bool)(Y:y=x)(w:World)(part:List OpV)(P:Option Addr)(L:Nat)(r:Out)(hl:part.length≤128)(V:∀s o,o∈ordO part→wfP s→wfP ((dR x) s o).1)(N n:Nat)(a:Act)(W:World)(hN:n≤N)(hJ:PJR x w part P L r 0 n a W):
 ∃tail,findLabel (zss y) 0=some (.seq .skip tail)∧tail.wp Tryz.prog (zLM (fun l a' w'=>∃n',n'<N∧PJR x w part P L r l n' a' w') (QR y w r)) a W:=by
 obtain⟨b,m,Q,bm,D,ga,oa,wa,la,oc,yc,lc,⟨hP,hS,hb,_⟩,u,rfl⟩:=hJ;have J:=zYV part;have k:Hid _:=hP;have K:Hid (srun (dR x) (ordO part) n b true m=some r):=hS;have LH:Hid _:=J;have R:Hid _:=fun n' (hn:n'≤N) a' W'=>backR_any x y Y w part P L r hl V N n' a' W' hn;clear hP hS J V;obtain⟨g,rfl⟩:∃g,n=g+1:=by
  cases n with
  |zero=>exact absurd K.out (by simp[srun])
  |succ g=>exact⟨g,rfl⟩
 generalize hJK:(fun(l:Nat) (a':Act) (w':World)=>∃n',n'<N∧PJR x w part P L r l n' a' w')=JK at R⊢;have JH:Hid _:=hJK;clear hJK;generalize hQK:QR y w r=QK at R⊢;have QH:Hid _:=hQK;clear hQK;clear Y;cases y
 all_goals
  refine⟨_,rfl,?_⟩;obtain⟨x6,y6,z6,S⟩:=k.out.res;have C:=k.out.must;have z:=k.out.here;have g0:W.cell? ⟨D,0,none⟩=some (.int .u64 m.here.1.1):=zBk z 0;have g1:W.cell? ⟨D,1,none⟩=some (.int .u64 m.here.1.2):=zBk z 1;obtain⟨M,hM⟩:∃M,M=retG (ordO part) 0 (0,0):=⟨_,rfl⟩;rw[←hM]at C;have q0:W.cell? ⟨Q,0,none⟩=some (.int .u64 M.1):=zBk C 0;have q1:W.cell? ⟨Q,1,none⟩=some (.int .u64 M.2):=zBk C 1;have HM:Hid _:=hM;have p:=fun W=>zlR M m.here.1 W;unfold grAg at p;have ah:m.way.length≤1000000:=by have h:m.way.length+b.toNat≤1000000:=k.out.wf.2.2.2.1;omega
  have Z:=zBq S;have H:=fun W' (hb':Below W.heap.size W W')=>zT3 oa wa oc yc (ordO part) m.way W' (k.out.on hb').row.1 (zeQ (fun _=>rfl) (fun _=>rfl) (k.out.on hb').way) (by omega) (fun s hs=>((k.out.on hb').wf.2.2.2.2 s hs).2.2);rw[LH.out]at H;have TK:=Hid.mk' H;clear H hM C z;cases hA:zJn M m.here.1 with
  |true=>
    have G:Hid (r=⟨1,takenL (ordO part) m.way,b⟩):=by
     have h:=K.out;unfold srun at h;rw[←HM.out,if_pos hA]at h;injection h with h;exact h.symm
    simp only [hA]at p;clear K hA;go_wp2_with (go_at_call 124;refine(p _).mono ?_;rintro e F ⟨rfl,j⟩;have I:=TK.out F j;have B:F.heap[w.heap.size+1]?=_:=(j.block _ Z).trans S;have q:=Hid.mk' j);refine I.mono ?_;rintro e E ⟨a,c,rfl,d,t⟩;have O:=zBq B;have i:E.heap[w.heap.size+1]?=some (.cells #[x6,y6,z6] 203 (0,0)):=(t.block _ O).trans B;have af:E.cell? ⟨w.heap.size+1,0,none⟩=some x6:=zBk i 0;have ak:E.cell? ⟨w.heap.size+1,1,none⟩=some y6:=zBk i 1;have ag:E.cell? ⟨w.heap.size+1,2,none⟩=some z6:=zBk i 2;have aj:=zBn i 0;have ai:=zBn i 1;have ae:=zBn i 2;have v:=zUxG (ordO part) m.way (fun s hs=>(k.out.wf.2.2.2.2 s hs).2.2);rw[←v]at d;have hO:=z6a d;have ab:∀g',a=some ⟨g',0,none⟩→takenL (ordO part) m.way≠[]→g'≠w.heap.size+1:=fun g' e1 _ e2=>by
     have h:=(d.lt g' (by rw[e1];rfl)).1;omega
    have X:∀g',a=some ⟨g',0,none⟩→w.heap.size≤g':=fun g' e1=>by
     have h:=(d.lt g' (by rw[e1];rfl)).1;omega
    have ad:=Hid.mk' X;have U:Below w.heap.size w E:=(k.out.on q.out).below.trans (t.mono ((k.out.on q.out).below.size));have A:=Hid.mk' (And.intro hO (And.intro U (And.intro i v)));clear hO U d t B v i X;go_wp2;rw[zcM,←QH.out];unfold QR;have ho:=out3 (Nat.le_succ _) A.out.2.1 a (takenL (ordO part) m.way) A.out.1 ab (.int .i64 1) (.slice a m.way.length c) (.int .i64 b);refine bodyPost_ret (zvb _ _ _ (w.heap.size+1) _ _ _ (by simp) (set3 A.out.2.2.1 _ _ _)) rfl ?_;exact⟨a,c,by rw[G.out,A.out.2.2.2];rfl,by rw[G.out];exact ho.1,ho.2,(fun g' e1 _=>ad.out g' e1)⟩
  |false=>
    have G:Hid (srun (dR x) (ordO part) g b false ⟨m.here,m.way,if m.longest.length<m.way.length then takenL (ordO part) m.way else m.longest,0,m.seen⟩=some r):=by
     have h:=K.out;unfold srun at h;rw[←HM.out,if_neg (by rw[hA];simp)]at h;exact h
    simp only [hA]at p;clear K hA;have al:m.longest.length≤9223372036854775807:=by
     obtain⟨_,⟨_,h2⟩|⟨_,_,_,_,_,_,h2,h3,_⟩⟩:=k.out.lng
     ·omega
     ·unfold maxLen at h3;omega
    by_cases hgt:m.longest.length<m.way.length
    ·have aa:(m.longest.length:Int)<(m.way.length:Int):=(by omega);go_wp2_with (go_at_call 124;refine(p _).mono ?_;rintro e F ⟨rfl,j⟩;have I:=TK.out F j;have q:=Hid.mk' j;clear j);refine I.mono ?_;rintro e E ⟨a,c,rfl,d,t⟩;have A:=Hid.mk' (And.intro d t);clear d t;go_wp2;go_step3;go_step;go_step;have v:=zUxG (ordO part) m.way (fun s hs=>(k.out.wf.2.2.2.2 s hs).2.2);have d:=A.out.1;rw[←v]at d;have h:=G.out;rw[if_pos hgt]at h;refine z7c (R.out g (by omega) _ _ ?_) rfl;exact⟨b,(⟨m.here,m.way,takenL (ordO part) m.way,0,m.seen⟩:Mch Ph),Q,bm,D,ga,oa,wa,a,oc,yc,c,⟨((k.out.on q.out).long A.out.2 _ a c d).at_ b (Int.le_refl _) 0 (Nat.zero_le _),h,hb,Nat.le_refl _⟩,exU _ _ (by rw[v];rfl)⟩
    ·have aa:¬(m.longest.length:Int)<(m.way.length:Int):=(by omega);go_wp2_with (go_at_call 124;refine(p _).mono ?_;rintro e F ⟨rfl,j⟩;have q:=Hid.mk' j;clear j);go_step3;go_step;go_step;have h:=G.out;rw[if_neg hgt]at h;refine z7c (R.out g (by omega) _ _ ?_) rfl;exact⟨b,(⟨m.here,m.way,m.longest,0,m.seen⟩:Mch Ph),Q,bm,D,ga,oa,wa,la,oc,yc,lc,⟨(k.out.on q.out).at_ b (Int.le_refl _) 0 (Nat.zero_le _),h,hb,Nat.le_refl _⟩,exU _ _ rfl⟩
open Tryz
def hR (y:Bool):FuncId:=match y with|false=>96|true=>102
def tR (y:Bool):TypeId:=match y with|false=>133|true=>139
theorem zPX (x y:Bool) (t:y=x) (j:Option Addr) (p:Nat) (part:List OpV) (b:Int) (w:World) (hr:OAt w j part) (E:part.length≤128) (hb: -9223372036854775808≤b∧b≤1000000) (q:∀s o,o∈ordO part→wfP s→wfP ((dR x) s o).1)
 (r:Out) (F:Nat) (L:srun (dR x) (ordO part) F b true ⟨((0,0),(false,0)),[],[],0,[]⟩=some r):
 Calls prog (hR y) #[.agg #[],.slice j part.length p,.int .i64 b] w fun e w'=>∃a c,e=.returned (.agg #[.int .i64 (r.verdict:Int),.slice a r.order.length c,.int .i64 r.left])∧OAt w' a r.order∧Below w.heap.size w w'∧∀g,a=some ⟨g,0,none⟩→r.order≠[]→w.heap.size≤g:=by
 obtain⟨v,d⟩:∃v,v=(w.alloc (.cells #[] (tR y))).alloc (.cells #[.int .i64 0,.slice none 0 0,.int .i64 0] 203):=⟨_,rfl⟩;have z:Below w.heap.size w v:=by rw[d];exact(zA _ _).alloc (by simp) _
 have aa:v.heap.size=w.heap.size+2:=by rw[d];simp
 have H:v.heap[w.heap.size+1]?=some (.cells #[.int .i64 0,.slice none 0 0,.int .i64 0] 203 (0,0)):=by rw[d];exact ziF _ _ _ (by simp)
 have G:=zWm j p part v (hr.below z) E;have C:=zYV part;have B:=fun i m W (h:OAt W i (ordO part))=>zYL i m (ordO part) W h (by omega);have u:=fun i m W (h:OAt W i (ordO part))=>ztU i m (ordO part) W h (by omega);rw[C]at B u;unfold grAg at u;have AH:=Hid.mk' B;have RE:=Hid.mk' u;have BY:=Hid.mk' G
 have FW:=Hid.mk' (forthR_any x y t w part j p r E q (F+1) F);have FB:=Hid.mk' (fun n=>And.intro (forthR_any x y t w part j p r E q n n) (backR_any x y t w part j p r E q n n));have ad:=Hid.mk' (And.intro z (And.intro aa H));have HF:=Hid.mk' L;have HL:=Hid.mk' C;have af:=@run_makeMap prog;clear B u G q hr L z H C;clear t;cases y
 all_goals
  simp only [tR]at d;simp only [hR]
  first|go_enter func96,ntmps96|go_enter func102,ntmps102
  go_wp2;rw[←d];clear d;refine z1v (PJR x w part j p r) ?first ?pass
  case pass=>
   intro l n a W R;have ab:l=0∨l=1:=(by obtain⟨_,_,_,_,_,_,_,_,_,_,_,_,⟨_,_,_,h⟩,_⟩:=R;omega);rcases ab with rfl|rfl
   ·obtain⟨V,X,U⟩:=(FB.out n).1 a W zH R;exact⟨_,X,wp_seq (wp_skip U)⟩
   ·obtain⟨V,X,U⟩:=(FB.out n).2 a W zH R;exact⟨_,X,wp_seq (wp_skip U)⟩
  case first=>
   go_wp2_with (go_at_call 121;refine BY.out.mono ?_;rintro e w1 ⟨i,m,rfl,S,O,M⟩;have I:=AH.out i m w1 S;have Y:=Hid.mk' (And.intro S (And.intro O M));clear S O M);refine I.mono ?_;rintro e w2 ⟨rfl,⟨ac,K,Q⟩,A⟩;have Z:=RE.out i m w2 (Y.out.1.below A);have H2:=Hid.mk' (And.intro K (And.intro Q A));clear K Q A I;go_wp2_with (go_at_call 123;refine Z.mono ?_;rintro e D ⟨rfl,N⟩;have H3:=Hid.mk' N;clear N);obtain⟨W5,P⟩:∃W5,W5=((D.alloc (.cells #[.int .u64 (retG (ordO part) 0 (0,0)).1,.int .u64 (retG (ordO part) 0 (0,0)).2] 244)).alloc (.map #[] 0)).alloc (.cells #[.int .u64 0,.int .u64 0,.bool false,.int .i64 0] 266):=⟨_,rfl⟩;rw[←P];have ae:=znO (tS:=270) (k:=4) (cs:=csP) (wfS:=wfP) (s0:=(false,0)) ⟨by decide,by decide⟩ hb ad.out Y.out H2.out H3.out HL.out P;go_step3;go_step;go_step;refine zwL (J:=fun l a' w'=>∃n',n'<F+1∧PJR x w part j p r l n' a' w') (z7c (FW.out _ _ (Nat.le_succ _) ?_) rfl) (fun l a w ⟨n,_,h⟩=>⟨n,h⟩);exact⟨b,(⟨((0,0),(false,0)),[],[],0,[]⟩:Mch Ph),D.heap.size,D.heap.size+1,D.heap.size+1+1,w1.heap.size,i,none,none,m,0,0,⟨ae,HF.out,hb,Nat.zero_le _⟩,exU _ _ rfl⟩
theorem zzI (x y:Bool)(j:y=x)(h:Option Addr)(k:Nat)(part:List OpV)(b:Int)(w:World)(n:OAt w h part)(t:part.length≤128)(v: -9223372036854775808≤b∧b≤1000000)(i:∀s o,o∈ordO part→wfP s→wfP ((dR x) s o).1):
 Calls prog (hR y) #[.agg #[],.slice h part.length k,.int .i64 b] w fun e w'=>∃r a c,Found (dR x) (ordO part) (false,0) b r∧e=.returned (.agg #[.int .i64 (r.verdict:Int),.slice a r.order.length c,.int .i64 r.left])∧OAt w' a r.order∧Below w.heap.size w w'∧∀g,a=some ⟨g,0,none⟩→r.order≠[]→w.heap.size≤g:=by
 obtain⟨r,l,d⟩:=Found.ends (dR x) (ordO part) (false,0) b;refine(zPX x y j h k part b w n t v i r l d).mono ?_;rintro e w' ⟨a,c,q,m,u,p⟩;exact⟨r,a,c,⟨l,d⟩,q,m,u,p⟩
theorem z7T (s:Ph)(o:OpV)(a:wfP s)(b:wfI o.arg):wfP (stDo s o).1:=by
 unfold stDo;split
 ·split<;>exact a
 ·split
  ·exact b
  ·split
   ·exact⟨show(-9223372036854775808:Int)≤0 by decide,show(0:Int)≤9223372036854775807 by decide⟩
   ·exact a
theorem zp5 (s:Ph)(o:OpV)(a:wfP s)(b:wfI o.cl):wfP (lkDo s o).1:=by
 unfold lkDo;split
 ·split
  ·exact b
  ·exact a
 ·split
  ·split
   ·exact⟨show(-9223372036854775808:Int)≤0 by decide,show(0:Int)≤9223372036854775807 by decide⟩
   ·exact a
  ·exact a
theorem zDU (d:Option Addr)(h:Nat)(part:List OpV)(b:Int)(w:World)(l:OAt w d part)(j:part.length≤128)(i: -9223372036854775808≤b∧b≤1000000)(k:∀o∈part,wfI o.arg):
 Calls Tryz.prog 96 #[.agg #[],.slice d part.length h,.int .i64 b] w fun e w'=>∃r a c,Found stDo (ordO part) (false,0) b r∧e=.returned (.agg #[.int .i64 (r.verdict:Int),.slice a r.order.length c,.int .i64 r.left])∧OAt w' a r.order∧Below w.heap.size w w'∧∀g,a=some ⟨g,0,none⟩→r.order≠[]→w.heap.size≤g:=
 zzI false false rfl d h part b w l j i (fun s o ho hs=>z7T s o hs (zRPi (p:=fun o=>wfI o.arg) part ⟨by decide,by decide⟩ k o ho))
theorem zpP (d:Option Addr)(h:Nat)(part:List OpV)(b:Int)(w:World)(l:OAt w d part)(j:part.length≤128)(i: -9223372036854775808≤b∧b≤1000000)(k:∀o∈part,wfI o.cl):
 Calls Tryz.prog 102 #[.agg #[],.slice d part.length h,.int .i64 b] w fun e w'=>∃r a c,Found lkDo (ordO part) (false,0) b r∧e=.returned (.agg #[.int .i64 (r.verdict:Int),.slice a r.order.length c,.int .i64 r.left])∧OAt w' a r.order∧Below w.heap.size w w'∧∀g,a=some ⟨g,0,none⟩→r.order≠[]→w.heap.size≤g:=
 zzI true true rfl d h part b w l j i (fun s o ho hs=>zp5 s o hs (zRPi (p:=fun o=>wfI o.cl) part ⟨by decide,by decide⟩ k o ho))
theorem zSX (d:Option Addr)(h:Nat)(part:List OpV)(b:Int)(w:World)(m:OAt w d part)(j:part.length≤128)(i: -9223372036854775808≤b∧b≤1000000)(l:∀o∈part,wfI o.arg)(hG:Glob w)(k:Pow w):
 Calls Tryz.prog 100 #[.agg #[],.slice d part.length h,.int .i64 b] w fun e w'=>∃r a c,Found quDo (ordO part) [] b r∧e=.returned (.agg #[.int .i64 (r.verdict:Int),.slice a r.order.length c,.int .i64 r.left])∧OAt w' a r.order∧Below w.heap.size w w'∧∀g,a=some ⟨g,0,none⟩→r.order≠[]→w.heap.size≤g:=
 zUt d h part b w m j i ⟨fun o ho=>zRPi (p:=fun o=>wfI o.arg) part ⟨by decide,by decide⟩ l o ho,hG,k⟩
end Go.Proofs.YtoeoinpaidhmcaaGreatDoor.srch
