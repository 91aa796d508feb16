/- Several texts in one. -/
import Derived.Test.YtbbkihekjdffpaaGreatDoorSrchY
import Derived.Test.YtbbkihekjdffpaaGreatDoorSrchYB
import Derived.Test.YtbbkihekjdffpaaGreatDoorSrchYQ
import Derived.Test.YtbbkihekjdffpaaGreatDoorSrchYR
import Derived.Laws.Bits64b
set_option maxHeartbeats 8000000
set_option maxRecDepth 1000000
namespace Go.Proofs.YtbbkihekjdffpaaGreatDoor.srch
open Go.RowKit
theorem bit_of (x:Nat)(hx:x<18446744073709551616)(k:Nat):(bits .and .u64 ((x:Int)/2 ^ k) 1 != 0)=x.testBit k:=by
 have e:((x:Int)/2 ^ k)=((x/2 ^ k:Nat):Int):=by norm_cast
 rw[e,show(1:Int)=((1:Nat):Int)from rfl,bits_and_u64_nat _ _ (Nat.lt_of_le_of_lt (Nat.div_le_self _ _) hx) (by omega)];rw[Nat.testBit,Nat.shiftRight_eq_div_pow,Nat.and_comm];cases h:(1 &&& x/2 ^ k)with
 |zero=>simp
 |succ n=>simp;omega
theorem z86 (k:Nat)(h:k<64):IntKind.u64.wrap (2 ^ k)=((2 ^ k:Nat):Int):=by
 have h1:2 ^ k<18446744073709551616:=Nat.pow_lt_pow_right (m:=k) (n:=64) (by omega) h;rw[IntKind.wrap_u64];have e:((2:Int) ^ k)=((2 ^ k:Nat):Int):=by norm_cast
 rw[e];generalize 2 ^ k=z at h1⊢;omega
theorem zMj (x:Nat)(hx:x<18446744073709551616)(k:Nat)(hk:k<64):bits .or .u64 (x:Int) (IntKind.u64.wrap (2 ^ k))=((x ||| 2 ^ k:Nat):Int):=by
 have h1:2 ^ k<2 ^ 64:=Nat.pow_lt_pow_right (by omega) hk;rw[z86 k hk];exact bits_or_u64_nat x (2 ^ k) hx (by omega)
theorem zx7 {g:Gr}(hg:wfG g)(p q:Nat)(hp:p<128)(hq:q<128):gHas (zdS g p) q=(decide (p=q)||gHas g q):=by
 obtain⟨x,y⟩:=g;obtain⟨⟨a1,a2⟩,b1,b2⟩:=hg;dsimp only at a1 a2 b1 b2;obtain⟨x,rfl⟩:=Int.eq_ofNat_of_zero_le a1;obtain⟨y,rfl⟩:=Int.eq_ofNat_of_zero_le b1;have hx:x<18446744073709551616:=by omega
 have hy:y<18446744073709551616:=by omega
 have hor:∀z k:Nat,z<18446744073709551616→k<64→z ||| 2 ^ k<18446744073709551616:=fun z k hz hk=>Nat.or_lt_two_pow (n:=64) hz (Nat.pow_lt_pow_right (by omega) hk);have hpm:p%64<64:=Nat.mod_lt _ (by omega);unfold gHas zdS;dsimp only;by_cases h1:p<64
 ·rw[if_pos h1];dsimp only;rw[zMj x hx _ hpm];by_cases h2:q<64
  ·rw[if_pos h2,if_pos h2,bit_of _ (hor x _ hx hpm),bit_of x hx,Nat.testBit_or,Nat.testBit_two_pow,Bool.or_comm];congr 1;rw[Nat.mod_eq_of_lt h1,Nat.mod_eq_of_lt h2]
  ·rw[if_neg h2,if_neg h2];have:decide (p=q)=false:=decide_eq_false (by omega);rw[this];rfl
 ·rw[if_neg h1];dsimp only;rw[zMj y hy _ hpm];by_cases h2:q<64
  ·rw[if_pos h2,if_pos h2];have:decide (p=q)=false:=decide_eq_false (by omega);rw[this];rfl
  ·rw[if_neg h2,if_neg h2,bit_of _ (hor y _ hy hpm),bit_of y hy,Nat.testBit_or,Nat.testBit_two_pow,Bool.or_comm];congr 1;apply decide_eq_decide.2;omega
theorem z4a (q:Nat):gHas (0,0) q=false:=by
 unfold gHas;have h:=bit_of 0 (by omega) (q%64);split<;>· rw[show(((0:Nat):Int))=0 from rfl]at h;rw[h];exact Nat.zero_testBit _
theorem zLl (n:Nat):∀l:List Nat,l.Nodup→(∀x∈l,x<n)→l.length≤n:=by
 induction n with
 |zero=>
   intro l _ h;cases l with
   |nil=>simp
   |cons a t=>exact absurd (h a (by simp)) (by omega)
 |succ n ih=>
   intro l hd h;have h1:=ih (l.filter (fun x=>x≠n)) (hd.filter _) (fun x hx=>by have hx2:=List.mem_filter.1 hx;have:=h x hx2.1;have h3:x≠n:=(by simpa using hx2.2);omega);have h2:l.count n≤1:=List.nodup_iff_count.1 hd n;have h3:=List.length_eq_countP_add_countP (fun x=>decide (x≠n)) (l:=l);rw[List.countP_eq_length_filter]at h3;have h4:List.countP (fun a=>decide ¬(decide (a≠n))=true) l=l.count n:=by
    rw[List.count];congr 1;funext a;by_cases ha:a=n<;>simp[ha]
   omega
section
variable {σ:Type}
def setW (l:List (Stp σ)):Gr:=l.foldl (fun g s=>zdS g s.pl) (0,0)
theorem zgr (l:List (Stp σ))(q:Nat)(hq:q<128):∀g:Gr,wfG g→(∀s∈l,s.pl<128)→gHas (l.foldl (fun g s=>zdS g s.pl) g) q=(decide (q∈l.map (·.pl))||gHas g q):=by
 induction l with
 |nil=>intro g _ _;simp
 |cons s t ih=>
   intro g hg hl;rw[List.foldl_cons,ih _ (zgs hg _) (fun x hx=>hl x (by simp[hx])),zx7 hg _ _ (hl s (by simp)) hq,←Bool.or_assoc];congr 1;rw[show decide (s.pl=q)=decide (q=s.pl)from decide_eq_decide.2 eq_comm];by_cases h1:q∈t.map (·.pl)<;>by_cases h2:q=s.pl<;>simp[h1,h2]
theorem wf_zero:wfG (0,0):=⟨⟨by decide,by decide⟩,by decide,by decide⟩
theorem ztQ (l:List (Stp σ))(q:Nat)(hq:q<128)(hl:∀s∈l,s.pl<128):gHas (setW l) q=decide (q∈l.map (·.pl)):=by
 unfold setW;rw[zgr l q hq _ wf_zero hl,z4a,Bool.or_false]
theorem z50 (l:List (Stp σ))(s:Stp σ):setW (l++[s])=zdS (setW l) s.pl:=by
 unfold setW;rw[List.foldl_append];rfl
structure Inv (ops:List OpV)(m:Mch σ):Prop where
 here:m.here.1=setW m.way
 nd:(m.way.map (·.pl)).Nodup
 lt:∀s∈m.way,s.pl<ops.length
 pre:∀l s l',m.way=l++s::l'→s.g=setW l
 lng:m.longest.length≤ops.length∧∀o∈m.longest,o∈ops
theorem zZV {l:List (Stp σ)}{n:Nat}(h1:(l.map (·.pl)).Nodup)(h2:∀s∈l,s.pl<n):l.length≤n:=by
 have:=zLl n _ h1 (fun x hx=>by obtain⟨s,hs,rfl⟩:=List.mem_map.1 hx;exact h2 s hs);simpa using this
theorem zke {l:List (Stp σ)}(ops:List OpV)(h1:(l.map (·.pl)).Nodup)(h2:∀s∈l,s.pl<ops.length):(takenL ops l).length≤ops.length∧∀o∈takenL ops l,o∈ops:=by
 refine⟨Nat.le_trans (List.length_filterMap_le _ _) (zZV h1 h2),fun o ho=>?_⟩;obtain⟨s,_,hs⟩:=List.mem_filterMap.1 ho;exact List.mem_of_getElem? hs
theorem zYmc [DecidableEq σ](doit:σ→OpV→σ×Int×Int)(ops:List OpV)(hn:ops.length≤128){o:OpV}{m:Mch σ}(h:Inv ops m)(ho:ops[m.place]?=some o):Inv ops (look doit ops o m).2:=by
 have hpl:m.place<ops.length:=(zB ho).1;unfold look;split
 ·exact⟨h.here,h.nd,h.lt,h.pre,h.lng⟩
 ·rename_i hc;dsimp only;split
  ·exact⟨h.here,h.nd,h.lt,h.pre,h.lng⟩
  ·split
   ·exact⟨h.here,h.nd,h.lt,h.pre,h.lng⟩
   ·have hno:gHas m.here.1 m.place=false:=by
     cases hq:gHas m.here.1 m.place with
     |false=>rfl
     |true=>rw[hq]at hc;simp at hc
    have hnm:m.place∉m.way.map (·.pl):=by
     rw[h.here,ztQ _ _ (by omega) (fun s hs=>by have:=h.lt s hs;omega)]at hno;exact of_decide_eq_false hno
    refine⟨?_,?_,?_,?_,h.lng⟩
    ·dsimp only;rw[z50,h.here]
    ·dsimp only;rw[List.map_append,List.nodup_append];refine⟨h.nd,by simp,?_⟩;intro a ha b hb;simp at hb;subst hb;intro e;subst e;exact hnm ha
    ·intro s hs;rcases List.mem_append.1 hs with hs|hs
     ·exact h.lt s hs
     ·rw[List.mem_singleton]at hs;subst hs;exact hpl
    ·intro l s l' e;dsimp only at e;rcases List.eq_nil_or_concat l' with rfl|⟨l2,y,rfl⟩
     ·obtain⟨e1,e2⟩:=List.append_inj' e rfl;injection e2 with e2;subst e1 e2;exact h.here
     ·rw[List.concat_eq_append,←List.cons_append,←List.append_assoc]at e;obtain⟨e1,_⟩:=List.append_inj' e rfl;exact h.pre l s l2 e1
theorem zA8 [DecidableEq σ](doit:σ→OpV→σ×Int×Int)(ops:List OpV)(hn:ops.length≤128)(f:Nat):∀(b:Int) (fo:Bool) (m:Mch σ) (r:Out),Inv ops m→srun doit ops f b fo m=some r→r.order.length≤ops.length∧(∀o∈r.order,o∈ops)∧r.verdict≤2∧(r.left≤b∨r.left=0)∧(b≤r.left∨0≤r.left):=by
 induction f with
 |zero=>intro b fo m r _ h;simp[srun]at h
 |succ f ih=>
   intro b fo m r hi h;cases fo with
   |true=>
     unfold srun at h;split at h
     ·injection h with h;subst h;exact⟨(zke ops hi.nd hi.lt).1,(zke ops hi.nd hi.lt).2,(by show 1≤2;omega),Or.inl (Int.le_refl _),Or.inl (Int.le_refl _)⟩
     ·refine ih _ _ _ _ ?_ h;refine⟨hi.here,hi.nd,hi.lt,hi.pre,?_⟩;dsimp only;split
      ·exact zke ops hi.nd hi.lt
      ·exact hi.lng
   |false=>
     unfold srun at h;cases ho:ops[m.place]? with
     |some o=>
       rw[ho]at h;dsimp only at h;split at h
       ·injection h with h;subst h;exact⟨Nat.zero_le _,(fun o ho=>by simp at ho),(by show 0≤2;omega),Or.inr rfl,Or.inr (Int.le_refl _)⟩
       ·obtain⟨h1,h2,h3,h4,h5⟩:=ih _ _ _ _ (zYmc doit ops hn hi ho) h;exact⟨h1,h2,h3,by omega,by omega⟩
     |none=>
       rw[ho]at h;dsimp only at h;cases hl:m.way.getLast? with
       |none=>
         rw[hl]at h;injection h with h;subst h;exact⟨hi.lng.1,hi.lng.2,(by show 2≤2;omega),Or.inl (Int.le_refl _),Or.inl (Int.le_refl _)⟩
       |some s=>
         rw[hl]at h;dsimp only at h;obtain⟨l,hls⟩:∃l,m.way=l++[s]:=List.getLast?_eq_some_iff.1 hl;refine ih _ _ _ _ ?_ h;refine⟨?_,?_,?_,?_,hi.lng⟩
         ·dsimp only;rw[hls,List.dropLast_concat];exact hi.pre l s [] hls
         ·dsimp only;have:=hi.nd;rw[hls,List.map_append,List.nodup_append]at this;rw[hls,List.dropLast_concat];exact this.1
         ·intro x hx;dsimp only at hx;rw[hls,List.dropLast_concat]at hx;exact hi.lt x (by rw[hls];simp[hx])
         ·intro l1 x l2 e;dsimp only at e;rw[hls,List.dropLast_concat]at e;exact hi.pre l1 x (l2++[s]) (by rw[hls,e];simp)
theorem Found.ok [DecidableEq σ]{doit:σ→OpV→σ×Int×Int}{ops:List OpV}(hn:ops.length≤128){s0:σ}{b:Int}{r:Out}(h:Found doit ops s0 b r):r.order.length≤ops.length∧(∀o∈r.order,o∈ops)∧r.verdict≤2∧(r.left≤b∨r.left=0)∧(b≤r.left∨0≤r.left):=by
 obtain⟨f,h⟩:=h;exact zA8 doit ops hn f b true _ r ⟨rfl,by simp,fun s hs=>by simp at hs,fun l s l' e=>by simp at e,Nat.zero_le _,fun o ho=>by simp at ho⟩ h
end
open Go.RowKit Go.Maps
theorem forthI_any (w:World)(part:List OpV)(pa:Option Addr)(pc:Nat)(r:Out)(hl:part.length≤128)(hdo:∀s o,o∈ordO part→wfI s→wfI (zCI s o).1)(N n:Nat)(a:Act)(W:World)(hN:n≤N)(hJ:PJI w part pa pc r 0 n a W):
 ∃tail,findLabel zg4 0=some (.seq .skip tail)∧tail.wp Tryz.prog (zLM (fun l a' w'=>∃n',n'<N∧PJI w part pa pc r l n' a' w') (QI w r)) a W:=by
 obtain⟨b,m,b9,bm,b11,ga,oa,wa,la,oc,yc,lc,⟨hP,hS,hb,_⟩,u,rfl⟩:=hJ;refine⟨_,rfl,?_⟩;have hlen:=zYV part;have P1:Hid _:=hP;have S1:Hid (srun zCI (ordO part) n b true m=some r):=hS;have LH:Hid _:=hlen;have BK:Hid _:=fun n' (hn:n'≤N) a' W'=>backI_any w part pa pc r hl hdo N n' a' W' hn;clear hP hS hlen hdo;obtain⟨g,rfl⟩:∃g,n=g+1:=by
  cases n with
  |zero=>exact absurd S1.out (by simp[srun])
  |succ g=>exact⟨g,rfl⟩
 generalize hJK:(fun(l:Nat) (a':Act) (w':World)=>∃n',n'<N∧PJI w part pa pc r l n' a' w')=JK at BK⊢;have JH:Hid _:=hJK;clear hJK;generalize hQK:QI w r=QK at BK⊢;have QH:Hid _:=hQK;clear hQK;obtain⟨x6,y6,z6,hB6⟩:=P1.out.res;have hB9:=P1.out.must;have hB11:=P1.out.here;have g0:W.cell? ⟨b11,0,none⟩=some (.int .u64 m.here.1.1):=zBk hB11 0;have g1:W.cell? ⟨b11,1,none⟩=some (.int .u64 m.here.1.2):=zBk hB11 1;obtain⟨M,hM⟩:∃M,M=retG (ordO part) 0 (0,0):=⟨_,rfl⟩;rw[←hM]at hB9;have q0:W.cell? ⟨b9,0,none⟩=some (.int .u64 M.1):=zBk hB9 0;have q1:W.cell? ⟨b9,1,none⟩=some (.int .u64 M.2):=zBk hB9 1;have HM:Hid _:=hM;have hwit:=fun W=>zlR M m.here.1 W;unfold grAg at hwit;have hmw:m.way.length≤1000000:=by have h:m.way.length+b.toNat≤1000000:=P1.out.wf.2.2.2.1;omega
 have hlt6:=zBq hB6;have htk:=fun W' (hb':Below W.heap.size W W')=>zsi oa wa oc yc (ordO part) m.way W' (P1.out.on hb').row.1 (zeQ (fun _=>rfl) (fun _=>rfl) (P1.out.on hb').way) (by omega) (fun s hs=>((P1.out.on hb').wf.2.2.2.2 s hs).2.2);rw[LH.out]at htk;have TK:=Hid.mk' htk;clear htk hM hB9 hB11;cases hA:zJn M m.here.1 with
 |true=>
   have hr:Hid (r=⟨1,takenL (ordO part) m.way,b⟩):=by
    have h:=S1.out;unfold srun at h;rw[←HM.out,if_pos hA]at h;injection h with h;exact h.symm
   simp only [hA]at hwit;clear S1 hA;go_wp2_with (go_at_call 80;refine(hwit _).mono ?_;rintro e w2 ⟨rfl,hb2⟩;have ht2:=TK.out w2 hb2;have hB62:w2.heap[w.heap.size+1]?=_:=(hb2.block _ hlt6).trans hB6;have HB2:=Hid.mk' hb2);refine ht2.mono ?_;rintro e w3 ⟨a,c,rfl,hown,hb3⟩;have hlt62:=zBq hB62;have hB63:w3.heap[w.heap.size+1]?=some (.cells #[x6,y6,z6] 104 (0,0)):=(hb3.block _ hlt62).trans hB62;have c60:w3.cell? ⟨w.heap.size+1,0,none⟩=some x6:=zBk hB63 0;have c61:w3.cell? ⟨w.heap.size+1,1,none⟩=some y6:=zBk hB63 1;have c62:w3.cell? ⟨w.heap.size+1,2,none⟩=some z6:=zBk hB63 2;have f60:=zBn hB63 0;have f61:=zBn hB63 1;have f62:=zBn hB63 2;have hlT:=zUxG (ordO part) m.way (fun s hs=>(P1.out.wf.2.2.2.2 s hs).2.2);rw[←hlT]at hown;have hO:=z6a hown;have hnn:∀g',a=some ⟨g',0,none⟩→takenL (ordO part) m.way≠[]→g'≠w.heap.size+1:=fun g' e1 _ e2=>by
    have h:=(hown.lt g' (by rw[e1];rfl)).1;omega
   have hgg:∀g',a=some ⟨g',0,none⟩→w.heap.size≤g':=fun g' e1=>by
    have h:=(hown.lt g' (by rw[e1];rfl)).1;omega
   have HGG:=Hid.mk' hgg;have hbl:Below w.heap.size w w3:=(P1.out.on HB2.out).below.trans (hb3.mono ((P1.out.on HB2.out).below.size));have HX:=Hid.mk' (And.intro hO (And.intro hbl (And.intro hB63 hlT)));clear hO hbl hown hb3 hB62 hlT hB63 hgg;go_wp2;rw[zcM,←QH.out];unfold QI;have ho:=out3 (Nat.le_succ _) HX.out.2.1 a (takenL (ordO part) m.way) HX.out.1 hnn (.int .i64 1) (.slice a m.way.length c) (.int .i64 b);refine bodyPost_ret (z8S _ _ (w.heap.size+1) _ _ _ (by simp) (set3 HX.out.2.2.1 _ _ _)) rfl ?_;exact⟨a,c,by rw[hr.out,HX.out.2.2.2];rfl,by rw[hr.out];exact ho.1,ho.2,(fun g' e1 _=>HGG.out g' e1)⟩
 |false=>
   have hr:Hid (srun zCI (ordO part) g b false ⟨m.here,m.way,if m.longest.length<m.way.length then takenL (ordO part) m.way else m.longest,0,m.seen⟩=some r):=by
    have h:=S1.out;unfold srun at h;rw[←HM.out,if_neg (by rw[hA];simp)]at h;exact h
   simp only [hA]at hwit;clear S1 hA;have hll:m.longest.length≤9223372036854775807:=by
    obtain⟨_,⟨_,h2⟩|⟨_,_,_,_,_,_,h2,h3,_⟩⟩:=P1.out.lng
    ·omega
    ·unfold maxLen at h3;omega
   by_cases hgt:m.longest.length<m.way.length
   ·have hgz:(m.longest.length:Int)<(m.way.length:Int):=(by omega);go_wp2_with (go_at_call 80;refine(hwit _).mono ?_;rintro e w2 ⟨rfl,hb2⟩;have ht2:=TK.out w2 hb2;have HB2:=Hid.mk' hb2;clear hb2);refine ht2.mono ?_;rintro e w3 ⟨a,c,rfl,hown,hb3⟩;have HX:=Hid.mk' (And.intro hown hb3);clear hown hb3;go_wp2;go_step3;go_step;go_step;have hlT:=zUxG (ordO part) m.way (fun s hs=>(P1.out.wf.2.2.2.2 s hs).2.2);have hown:=HX.out.1;rw[←hlT]at hown;have h:=hr.out;rw[if_pos hgt]at h;refine z7c (BK.out g (by omega) _ _ ?_) rfl;exact⟨b,(⟨m.here,m.way,takenL (ordO part) m.way,0,m.seen⟩:Mch Int),b9,bm,b11,ga,oa,wa,a,oc,yc,c,⟨((P1.out.on HB2.out).long HX.out.2 _ a c hown).at_ b (Int.le_refl _) 0 (Nat.zero_le _),h,hb,Nat.le_refl _⟩,exU _ _ (by rw[hlT];rfl)⟩
   ·have hgz:¬(m.longest.length:Int)<(m.way.length:Int):=(by omega);go_wp2_with (go_at_call 80;refine(hwit _).mono ?_;rintro e w2 ⟨rfl,hb2⟩;have HB2:=Hid.mk' hb2;clear hb2);go_step3;go_step;go_step;have h:=hr.out;rw[if_neg hgt]at h;refine z7c (BK.out g (by omega) _ _ ?_) rfl;exact⟨b,(⟨m.here,m.way,m.longest,0,m.seen⟩:Mch Int),b9,bm,b11,ga,oa,wa,la,oc,yc,lc,⟨(P1.out.on HB2.out).at_ b (Int.le_refl _) 0 (Nat.zero_le _),h,hb,Nat.le_refl _⟩,exU _ _ rfl⟩
open Tryz
theorem zOx (pa:Option Addr) (pc:Nat) (part:List OpV) (b:Int) (w:World) (hr:OAt w pa part) (hl:part.length≤128) (hb: -9223372036854775808≤b∧b≤1000000) (hdo:∀s o,o∈ordO part→wfI s→wfI (zCI s o).1)
 (r:Out) (f0:Nat) (hf0:srun zCI (ordO part) f0 b true ⟨((0,0),0),[],[],0,[]⟩=some r):
 Calls prog 44 #[.agg #[],.slice pa part.length pc,.int .i64 b] w fun e w'=>∃a c,e=.returned (.agg #[.int .i64 (r.verdict:Int),.slice a r.order.length c,.int .i64 r.left])∧OAt w' a r.order∧Below w.heap.size w w'∧∀g,a=some ⟨g,0,none⟩→r.order≠[]→w.heap.size≤g:=by
 obtain⟨W0,hW0⟩:∃W0,W0=(w.alloc (.cells #[] 54)).alloc (.cells #[.int .i64 0,.slice none 0 0,.int .i64 0] 104):=⟨_,rfl⟩;have hb0:Below w.heap.size w W0:=by rw[hW0];exact(zA _ _).alloc (by simp) _
 have hs0:W0.heap.size=w.heap.size+2:=by rw[hW0];simp
 have hB6:W0.heap[w.heap.size+1]?=some (.cells #[.int .i64 0,.slice none 0 0,.int .i64 0] 104 (0,0)):=by rw[hW0];exact ziF _ _ _ (by simp)
 have hby:=zWm pa pc part W0 (hr.below hb0) hl;have hle:=zYV part;have hah:=fun oa oc W (h:OAt W oa (ordO part))=>zYL oa oc (ordO part) W h (by omega);have hre:=fun oa oc W (h:OAt W oa (ordO part))=>ztU oa oc (ordO part) W h (by omega);rw[hle]at hah hre;unfold grAg at hre;have AH:=Hid.mk' hah;have RE:=Hid.mk' hre;have BY:=Hid.mk' hby
 have FW:=Hid.mk' (forthI_any w part pa pc r hl hdo (f0+1) f0);have FB:=Hid.mk' (fun n=>And.intro (forthI_any w part pa pc r hl hdo n n) (backI_any w part pa pc r hl hdo n n));have HB0:=Hid.mk' (And.intro hb0 (And.intro hs0 hB6));have HF:=Hid.mk' hf0;have HL:=Hid.mk' hle;have hmm:=@run_makeMap prog;clear hah hre hby hdo hr hf0 hb0 hB6 hle;go_enter func44,ntmps44;go_wp2;rw[←hW0];clear hW0;refine z1v (PJI w part pa pc r) ?first ?pass
 case pass=>
  intro l n a W hJ;have hl1:l=0∨l=1:=by obtain⟨_,_,_,_,_,_,_,_,_,_,_,_,⟨_,_,_,h⟩,_⟩:=hJ;omega
  rcases hl1 with rfl|rfl
  ·obtain⟨tail,hf,hw⟩:=(FB.out n).1 a W zG hJ;exact⟨_,hf,wp_seq (wp_skip hw)⟩
  ·obtain⟨tail,hf,hw⟩:=(FB.out n).2 a W zG hJ;exact⟨_,hf,wp_seq (wp_skip hw)⟩
 case first=>
  go_wp2_with (go_at_call 77;refine BY.out.mono ?_;rintro e w1 ⟨oa,oc,rfl,hO,hb1,hgo⟩;have hA1:=AH.out oa oc w1 hO;have H1:=Hid.mk' (And.intro hO (And.intro hb1 hgo));clear hO hb1 hgo);refine hA1.mono ?_;rintro e w2 ⟨rfl,⟨ac,hac,hgr⟩,hb2⟩;have hR2:=RE.out oa oc w2 (H1.out.1.below hb2);have H2:=Hid.mk' (And.intro hac (And.intro hgr hb2));clear hac hgr hb2 hA1;go_wp2_with (go_at_call 79;refine hR2.mono ?_;rintro e w3 ⟨rfl,hb3⟩;have H3:=Hid.mk' hb3;clear hb3);obtain⟨W5,hW5⟩:∃W5,W5=((w3.alloc (.cells #[.int .u64 (retG (ordO part) 0 (0,0)).1,.int .u64 (retG (ordO part) 0 (0,0)).2] 161)).alloc (.map #[] 0)).alloc (.cells #[.int .u64 0,.int .u64 0,.int .i64 0] 165):=⟨_,rfl⟩;rw[←hW5];have hPM:=znO (tS:=175) (k:=3) (cs:=csI) (wfS:=wfI) (s0:=0) ⟨by decide,by decide⟩ hb HB0.out H1.out H2.out H3.out HL.out hW5;go_step3;go_step;go_step;refine zwL (J:=fun l a' w'=>∃n',n'<f0+1∧PJI w part pa pc r l n' a' w') (z7c (FW.out _ _ (Nat.le_succ _) ?_) rfl) (fun l a w ⟨n,_,h⟩=>⟨n,h⟩);exact⟨b,(⟨((0,0),0),[],[],0,[]⟩:Mch Int),w3.heap.size,w3.heap.size+1,w3.heap.size+1+1,w1.heap.size,oa,none,none,oc,0,0,⟨hPM,HF.out,hb,Nat.zero_le _⟩,exU _ _ rfl⟩
theorem ztm (pa:Option Addr)(pc:Nat)(part:List OpV)(b:Int)(w:World)(hr:OAt w pa part)(hl:part.length≤128)(hb: -9223372036854775808≤b∧b≤1000000)(hdo:∀s o,o∈ordO part→wfI s→wfI (zCI s o).1):
 Calls prog 44 #[.agg #[],.slice pa part.length pc,.int .i64 b] w fun e w'=>∃r a c,Found zCI (ordO part) 0 b r∧e=.returned (.agg #[.int .i64 (r.verdict:Int),.slice a r.order.length c,.int .i64 r.left])∧OAt w' a r.order∧Below w.heap.size w w'∧∀g,a=some ⟨g,0,none⟩→r.order≠[]→w.heap.size≤g:=by
 obtain⟨r,f0,hf0⟩:=Found.ends zCI (ordO part) 0 b;refine(zOx pa pc part b w hr hl hb hdo r f0 hf0).mono ?_;rintro e w' ⟨a,c,h1,h2,h3,h4⟩;exact⟨r,a,c,⟨f0,hf0⟩,h1,h2,h3,h4⟩
theorem forthB_any (w:World)(part:List OpV)(pa:Option Addr)(pc:Nat)(r:Out)(hl:part.length≤128)(hdo:∀s o,o∈ordO part→wfB s→wfB (zqY s o).1)(N n:Nat)(a:Act)(W:World)(hN:n≤N)(hJ:PJB w part pa pc r 0 n a W):
 ∃tail,findLabel zVj 0=some (.seq .skip tail)∧tail.wp Tryz.prog (zLM (fun l a' w'=>∃n',n'<N∧PJB w part pa pc r l n' a' w') (QB w r)) a W:=by
 obtain⟨b,m,b9,bm,b11,ga,oa,wa,la,oc,yc,lc,⟨hP,hS,hb,_⟩,u,rfl⟩:=hJ;refine⟨_,rfl,?_⟩;have hlen:=zYV part;have P1:Hid _:=hP;have S1:Hid (srun zqY (ordO part) n b true m=some r):=hS;have LH:Hid _:=hlen;have BK:Hid _:=fun n' (hn:n'≤N) a' W'=>backB_any w part pa pc r hl hdo N n' a' W' hn;clear hP hS hlen hdo;obtain⟨g,rfl⟩:∃g,n=g+1:=by
  cases n with
  |zero=>exact absurd S1.out (by simp[srun])
  |succ g=>exact⟨g,rfl⟩
 generalize hJK:(fun(l:Nat) (a':Act) (w':World)=>∃n',n'<N∧PJB w part pa pc r l n' a' w')=JK at BK⊢;have JH:Hid _:=hJK;clear hJK;generalize hQK:QB w r=QK at BK⊢;have QH:Hid _:=hQK;clear hQK;obtain⟨x6,y6,z6,hB6⟩:=P1.out.res;have hB9:=P1.out.must;have hB11:=P1.out.here;have g0:W.cell? ⟨b11,0,none⟩=some (.int .u64 m.here.1.1):=zBk hB11 0;have g1:W.cell? ⟨b11,1,none⟩=some (.int .u64 m.here.1.2):=zBk hB11 1;obtain⟨M,hM⟩:∃M,M=retG (ordO part) 0 (0,0):=⟨_,rfl⟩;rw[←hM]at hB9;have q0:W.cell? ⟨b9,0,none⟩=some (.int .u64 M.1):=zBk hB9 0;have q1:W.cell? ⟨b9,1,none⟩=some (.int .u64 M.2):=zBk hB9 1;have HM:Hid _:=hM;have hwit:=fun W=>zlR M m.here.1 W;unfold grAg at hwit;have hmw:m.way.length≤1000000:=by have h:m.way.length+b.toNat≤1000000:=P1.out.wf.2.2.2.1;omega
 have hlt6:=zBq hB6;have htk:=fun W' (hb':Below W.heap.size W W')=>zi9 oa wa oc yc (ordO part) m.way W' (P1.out.on hb').row.1 (zeQ (fun _=>rfl) (fun _=>rfl) (P1.out.on hb').way) (by omega) (fun s hs=>((P1.out.on hb').wf.2.2.2.2 s hs).2.2);rw[LH.out]at htk;have TK:=Hid.mk' htk;clear htk hM hB9 hB11;cases hA:zJn M m.here.1 with
 |true=>
   have hr:Hid (r=⟨1,takenL (ordO part) m.way,b⟩):=by
    have h:=S1.out;unfold srun at h;rw[←HM.out,if_pos hA]at h;injection h with h;exact h.symm
   simp only [hA]at hwit;clear S1 hA;go_wp2_with (go_at_call 80;refine(hwit _).mono ?_;rintro e w2 ⟨rfl,hb2⟩;have ht2:=TK.out w2 hb2;have hB62:w2.heap[w.heap.size+1]?=_:=(hb2.block _ hlt6).trans hB6;have HB2:=Hid.mk' hb2);refine ht2.mono ?_;rintro e w3 ⟨a,c,rfl,hown,hb3⟩;have hlt62:=zBq hB62;have hB63:w3.heap[w.heap.size+1]?=some (.cells #[x6,y6,z6] 104 (0,0)):=(hb3.block _ hlt62).trans hB62;have c60:w3.cell? ⟨w.heap.size+1,0,none⟩=some x6:=zBk hB63 0;have c61:w3.cell? ⟨w.heap.size+1,1,none⟩=some y6:=zBk hB63 1;have c62:w3.cell? ⟨w.heap.size+1,2,none⟩=some z6:=zBk hB63 2;have f60:=zBn hB63 0;have f61:=zBn hB63 1;have f62:=zBn hB63 2;have hlT:=zUxG (ordO part) m.way (fun s hs=>(P1.out.wf.2.2.2.2 s hs).2.2);rw[←hlT]at hown;have hO:=z6a hown;have hnn:∀g',a=some ⟨g',0,none⟩→takenL (ordO part) m.way≠[]→g'≠w.heap.size+1:=fun g' e1 _ e2=>by
    have h:=(hown.lt g' (by rw[e1];rfl)).1;omega
   have hgg:∀g',a=some ⟨g',0,none⟩→w.heap.size≤g':=fun g' e1=>by
    have h:=(hown.lt g' (by rw[e1];rfl)).1;omega
   have HGG:=Hid.mk' hgg;have hbl:Below w.heap.size w w3:=(P1.out.on HB2.out).below.trans (hb3.mono ((P1.out.on HB2.out).below.size));have HX:=Hid.mk' (And.intro hO (And.intro hbl (And.intro hB63 hlT)));clear hO hbl hown hb3 hB62 hlT hB63 hgg;go_wp2;rw[zcM,←QH.out];unfold QB;have ho:=out3 (Nat.le_succ _) HX.out.2.1 a (takenL (ordO part) m.way) HX.out.1 hnn (.int .i64 1) (.slice a m.way.length c) (.int .i64 b);refine bodyPost_ret (zCQ _ _ (w.heap.size+1) _ _ _ (by simp) (set3 HX.out.2.2.1 _ _ _)) rfl ?_;exact⟨a,c,by rw[hr.out,HX.out.2.2.2];rfl,by rw[hr.out];exact ho.1,ho.2,(fun g' e1 _=>HGG.out g' e1)⟩
 |false=>
   have hr:Hid (srun zqY (ordO part) g b false ⟨m.here,m.way,if m.longest.length<m.way.length then takenL (ordO part) m.way else m.longest,0,m.seen⟩=some r):=by
    have h:=S1.out;unfold srun at h;rw[←HM.out,if_neg (by rw[hA];simp)]at h;exact h
   simp only [hA]at hwit;clear S1 hA;have hll:m.longest.length≤9223372036854775807:=by
    obtain⟨_,⟨_,h2⟩|⟨_,_,_,_,_,_,h2,h3,_⟩⟩:=P1.out.lng
    ·omega
    ·unfold maxLen at h3;omega
   by_cases hgt:m.longest.length<m.way.length
   ·have hgz:(m.longest.length:Int)<(m.way.length:Int):=(by omega);go_wp2_with (go_at_call 80;refine(hwit _).mono ?_;rintro e w2 ⟨rfl,hb2⟩;have ht2:=TK.out w2 hb2;have HB2:=Hid.mk' hb2;clear hb2);refine ht2.mono ?_;rintro e w3 ⟨a,c,rfl,hown,hb3⟩;have HX:=Hid.mk' (And.intro hown hb3);clear hown hb3;go_wp2;go_step3;go_step;go_step;have hlT:=zUxG (ordO part) m.way (fun s hs=>(P1.out.wf.2.2.2.2 s hs).2.2);have hown:=HX.out.1;rw[←hlT]at hown;have h:=hr.out;rw[if_pos hgt]at h;refine z7c (BK.out g (by omega) _ _ ?_) rfl;exact⟨b,(⟨m.here,m.way,takenL (ordO part) m.way,0,m.seen⟩:Mch Bool),b9,bm,b11,ga,oa,wa,a,oc,yc,c,⟨((P1.out.on HB2.out).long HX.out.2 _ a c hown).at_ b (Int.le_refl _) 0 (Nat.zero_le _),h,hb,Nat.le_refl _⟩,exU _ _ (by rw[hlT];rfl)⟩
   ·have hgz:¬(m.longest.length:Int)<(m.way.length:Int):=(by omega);go_wp2_with (go_at_call 80;refine(hwit _).mono ?_;rintro e w2 ⟨rfl,hb2⟩;have HB2:=Hid.mk' hb2;clear hb2);go_step3;go_step;go_step;have h:=hr.out;rw[if_neg hgt]at h;refine z7c (BK.out g (by omega) _ _ ?_) rfl;exact⟨b,(⟨m.here,m.way,m.longest,0,m.seen⟩:Mch Bool),b9,bm,b11,ga,oa,wa,la,oc,yc,lc,⟨(P1.out.on HB2.out).at_ b (Int.le_refl _) 0 (Nat.zero_le _),h,hb,Nat.le_refl _⟩,exU _ _ rfl⟩
theorem zB4 (pa:Option Addr) (pc:Nat) (part:List OpV) (b:Int) (w:World) (hr:OAt w pa part) (hl:part.length≤128) (hb: -9223372036854775808≤b∧b≤1000000) (hdo:∀s o,o∈ordO part→wfB s→wfB (zqY s o).1)
 (r:Out) (f0:Nat) (hf0:srun zqY (ordO part) f0 b true ⟨((0,0),false),[],[],0,[]⟩=some r):
 Calls prog 52 #[.agg #[],.slice pa part.length pc,.int .i64 b] w fun e w'=>∃a c,e=.returned (.agg #[.int .i64 (r.verdict:Int),.slice a r.order.length c,.int .i64 r.left])∧OAt w' a r.order∧Below w.heap.size w w'∧∀g,a=some ⟨g,0,none⟩→r.order≠[]→w.heap.size≤g:=by
 obtain⟨W0,hW0⟩:∃W0,W0=(w.alloc (.cells #[] 64)).alloc (.cells #[.int .i64 0,.slice none 0 0,.int .i64 0] 104):=⟨_,rfl⟩;have hb0:Below w.heap.size w W0:=by rw[hW0];exact(zA _ _).alloc (by simp) _
 have hs0:W0.heap.size=w.heap.size+2:=by rw[hW0];simp
 have hB6:W0.heap[w.heap.size+1]?=some (.cells #[.int .i64 0,.slice none 0 0,.int .i64 0] 104 (0,0)):=by rw[hW0];exact ziF _ _ _ (by simp)
 have hby:=zWm pa pc part W0 (hr.below hb0) hl;have hle:=zYV part;have hah:=fun oa oc W (h:OAt W oa (ordO part))=>zYL oa oc (ordO part) W h (by omega);have hre:=fun oa oc W (h:OAt W oa (ordO part))=>ztU oa oc (ordO part) W h (by omega);rw[hle]at hah hre;unfold grAg at hre;have AH:=Hid.mk' hah;have RE:=Hid.mk' hre;have BY:=Hid.mk' hby
 have FW:=Hid.mk' (forthB_any w part pa pc r hl hdo (f0+1) f0);have FB:=Hid.mk' (fun n=>And.intro (forthB_any w part pa pc r hl hdo n n) (backB_any w part pa pc r hl hdo n n));have HB0:=Hid.mk' (And.intro hb0 (And.intro hs0 hB6));have HF:=Hid.mk' hf0;have HL:=Hid.mk' hle;have hmm:=@run_makeMap prog;clear hah hre hby hdo hr hf0 hb0 hB6 hle;go_enter func52,ntmps52;go_wp2;rw[←hW0];clear hW0;refine z1v (PJB w part pa pc r) ?first ?pass
 case pass=>
  intro l n a W hJ;have hl1:l=0∨l=1:=by obtain⟨_,_,_,_,_,_,_,_,_,_,_,_,⟨_,_,_,h⟩,_⟩:=hJ;omega
  rcases hl1 with rfl|rfl
  ·obtain⟨tail,hf,hw⟩:=(FB.out n).1 a W zG hJ;exact⟨_,hf,wp_seq (wp_skip hw)⟩
  ·obtain⟨tail,hf,hw⟩:=(FB.out n).2 a W zG hJ;exact⟨_,hf,wp_seq (wp_skip hw)⟩
 case first=>
  go_wp2_with (go_at_call 77;refine BY.out.mono ?_;rintro e w1 ⟨oa,oc,rfl,hO,hb1,hgo⟩;have hA1:=AH.out oa oc w1 hO;have H1:=Hid.mk' (And.intro hO (And.intro hb1 hgo));clear hO hb1 hgo);refine hA1.mono ?_;rintro e w2 ⟨rfl,⟨ac,hac,hgr⟩,hb2⟩;have hR2:=RE.out oa oc w2 (H1.out.1.below hb2);have H2:=Hid.mk' (And.intro hac (And.intro hgr hb2));clear hac hgr hb2 hA1;go_wp2_with (go_at_call 79;refine hR2.mono ?_;rintro e w3 ⟨rfl,hb3⟩;have H3:=Hid.mk' hb3;clear hb3);obtain⟨W5,hW5⟩:∃W5,W5=((w3.alloc (.cells #[.int .u64 (retG (ordO part) 0 (0,0)).1,.int .u64 (retG (ordO part) 0 (0,0)).2] 161)).alloc (.map #[] 0)).alloc (.cells #[.int .u64 0,.int .u64 0,.bool false] 215):=⟨_,rfl⟩;rw[←hW5];have hPM:=znO (tS:=221) (k:=3) (cs:=csB) (wfS:=wfB) (s0:=false) trivial hb HB0.out H1.out H2.out H3.out HL.out hW5;go_step3;go_step;go_step;refine zwL (J:=fun l a' w'=>∃n',n'<f0+1∧PJB w part pa pc r l n' a' w') (z7c (FW.out _ _ (Nat.le_succ _) ?_) rfl) (fun l a w ⟨n,_,h⟩=>⟨n,h⟩);exact⟨b,(⟨((0,0),false),[],[],0,[]⟩:Mch Bool),w3.heap.size,w3.heap.size+1,w3.heap.size+1+1,w1.heap.size,oa,none,none,oc,0,0,⟨hPM,HF.out,hb,Nat.zero_le _⟩,exU _ _ rfl⟩
theorem zXN (pa:Option Addr)(pc:Nat)(part:List OpV)(b:Int)(w:World)(hr:OAt w pa part)(hl:part.length≤128)(hb: -9223372036854775808≤b∧b≤1000000)(hdo:∀s o,o∈ordO part→wfB s→wfB (zqY s o).1):
 Calls prog 52 #[.agg #[],.slice pa part.length pc,.int .i64 b] w fun e w'=>∃r a c,Found zqY (ordO part) false b r∧e=.returned (.agg #[.int .i64 (r.verdict:Int),.slice a r.order.length c,.int .i64 r.left])∧OAt w' a r.order∧Below w.heap.size w w'∧∀g,a=some ⟨g,0,none⟩→r.order≠[]→w.heap.size≤g:=by
 obtain⟨r,f0,hf0⟩:=Found.ends zqY (ordO part) false b;refine(zB4 pa pc part b w hr hl hb hdo r f0 hf0).mono ?_;rintro e w' ⟨a,c,h1,h2,h3,h4⟩;exact⟨r,a,c,⟨f0,hf0⟩,h1,h2,h3,h4⟩
theorem zQC (s:Int)(o:OpV)(hs:wfI s)(ho:wfI o.arg):wfI (zCI s o).1:=by
 unfold zCI;split
 ·exact hs
 ·split
  ·exact ho
  ·split
   ·split
    ·exact ho
    ·exact hs
   ·exact hs
theorem z6C (pa:Option Addr)(pc:Nat)(part:List OpV)(b:Int)(w:World)(hr:OAt w pa part)(hl:part.length≤128)(hb: -9223372036854775808≤b∧b≤1000000)(ha:∀o∈part,wfI o.arg):
 Calls Tryz.prog 44 #[.agg #[],.slice pa part.length pc,.int .i64 b] w fun e w'=>∃r a c,Found zCI (ordO part) 0 b r∧e=.returned (.agg #[.int .i64 (r.verdict:Int),.slice a r.order.length c,.int .i64 r.left])∧OAt w' a r.order∧Below w.heap.size w w'∧∀g,a=some ⟨g,0,none⟩→r.order≠[]→w.heap.size≤g:=
 ztm pa pc part b w hr hl hb (fun s o ho hs=>zQC s o hs (zRPi (p:=fun o=>wfI o.arg) part ⟨by decide,by decide⟩ ha o ho))
theorem zSE (pa:Option Addr)(pc:Nat)(part:List OpV)(b:Int)(w:World)(hr:OAt w pa part)(hl:part.length≤128)(hb: -9223372036854775808≤b∧b≤1000000):
 Calls Tryz.prog 52 #[.agg #[],.slice pa part.length pc,.int .i64 b] w fun e w'=>∃r a c,Found zqY (ordO part) false b r∧e=.returned (.agg #[.int .i64 (r.verdict:Int),.slice a r.order.length c,.int .i64 r.left])∧OAt w' a r.order∧Below w.heap.size w w'∧∀g,a=some ⟨g,0,none⟩→r.order≠[]→w.heap.size≤g:=
 zXN pa pc part b w hr hl hb (fun _ _ _ _=>trivial)
theorem zzE {σ:Type} [DecidableEq σ]{doit:σ→OpV→σ×Int×Int}{part:List OpV}{s0:σ}{b:Int}{r:Out}(hl:part.length≤128)(h:Found doit (ordO part) s0 b r){p:OpV→Prop}(h0:p default)(hp:∀o∈part,p o):
 r.order.length≤part.length∧(∀o∈r.order,p o)∧r.verdict≤2∧(r.left≤b∨r.left=0)∧(b≤r.left∨0≤r.left):=by
 have hn:=zYV part;obtain⟨h1,h2,h3,h4⟩:=Found.ok (by omega) h;exact⟨by omega,fun o ho=>zRPi part h0 hp o (h2 o ho),h3,h4⟩
theorem forthQ_any (w:World)(part:List OpV)(pa:Option Addr)(pc:Nat)(r:Out)(hl:part.length≤128)(hdo:(∀o,o∈ordO part→ -9223372036854775808≤o.arg∧o.arg≤9223372036854775807)∧Glob w∧Pow w)(N n:Nat)(a:Act)(W:World)(hN:n≤N)(hJ:PJQ w part pa pc r 0 n a W):
 ∃tail,findLabel z3x 0=some (.seq .skip tail)∧tail.wp Tryz.prog (zLM (fun l a' w'=>∃n',n'<N∧PJQ w part pa pc r l n' a' w') (QQ w r)) a W:=by
 obtain⟨b,m,b9,bm,b11,ga,oa,wa,la,oc,yc,lc,⟨hP,hS,hb,_,hQ0⟩,u,rfl⟩:=hJ;refine⟨_,rfl,?_⟩;have hlen:=zYV part;have P1:Hid _:=hP;have S1:Hid (srun quDo (ordO part) n b true m=some r):=hS;have LH:Hid _:=hlen;have BK:Hid _:=fun n' (hn:n'≤N) a' W'=>backQ_any w part pa pc r hl hdo N n' a' W' hn;clear hP hS hlen hdo;obtain⟨g,rfl⟩:∃g,n=g+1:=by
  cases n with
  |zero=>exact absurd S1.out (by simp[srun])
  |succ g=>exact⟨g,rfl⟩
 generalize hJK:(fun(l:Nat) (a':Act) (w':World)=>∃n',n'<N∧PJQ w part pa pc r l n' a' w')=JK at BK⊢;have JH:Hid _:=hJK;clear hJK;generalize hQK:QQ w r=QK at BK⊢;have QH:Hid _:=hQK;clear hQK;obtain⟨x6,y6,z6,hB6⟩:=P1.out.res;have hB9:=P1.out.must;have hB11:=P1.out.here;have g0:W.cell? ⟨b11,0,none⟩=some (.int .u64 m.here.1.1):=zBk hB11 0;have g1:W.cell? ⟨b11,1,none⟩=some (.int .u64 m.here.1.2):=zBk hB11 1;obtain⟨M,hM⟩:∃M,M=retG (ordO part) 0 (0,0):=⟨_,rfl⟩;rw[←hM]at hB9;have q0:W.cell? ⟨b9,0,none⟩=some (.int .u64 M.1):=zBk hB9 0;have q1:W.cell? ⟨b9,1,none⟩=some (.int .u64 M.2):=zBk hB9 1;have HM:Hid _:=hM;have hwit:=fun W=>zlR M m.here.1 W;unfold grAg at hwit;have hmw:m.way.length≤1000000:=by have h:m.way.length+b.toNat≤1000000:=P1.out.wf.2.2.2.1;omega
 have hlt6:=zBq hB6;have htk:=fun W' (hb':Below W.heap.size W W')=>zfk oa wa oc yc (ordO part) m.way W' (P1.out.on hb').row.1 (zeQ (fun _=>rfl) (fun _=>rfl) (P1.out.on hb').way) (by omega) (fun s hs=>((P1.out.on hb').wf.2.2.2.2 s hs).2.2);rw[LH.out]at htk;have TK:=Hid.mk' htk;clear htk hM hB9 hB11;cases hA:zJn M m.here.1 with
 |true=>
   have hr:Hid (r=⟨1,takenL (ordO part) m.way,b⟩):=by
    have h:=S1.out;unfold srun at h;rw[←HM.out,if_pos hA]at h;injection h with h;exact h.symm
   simp only [hA]at hwit;clear S1 hA;go_wp2_with (go_at_call 80;refine(hwit _).mono ?_;rintro e w2 ⟨rfl,hb2⟩;have ht2:=TK.out w2 hb2;have hB62:w2.heap[w.heap.size+1]?=_:=(hb2.block _ hlt6).trans hB6;have HB2:=Hid.mk' hb2);refine ht2.mono ?_;rintro e w3 ⟨a,c,rfl,hown,hb3⟩;have hlt62:=zBq hB62;have hB63:w3.heap[w.heap.size+1]?=some (.cells #[x6,y6,z6] 104 (0,0)):=(hb3.block _ hlt62).trans hB62;have c60:w3.cell? ⟨w.heap.size+1,0,none⟩=some x6:=zBk hB63 0;have c61:w3.cell? ⟨w.heap.size+1,1,none⟩=some y6:=zBk hB63 1;have c62:w3.cell? ⟨w.heap.size+1,2,none⟩=some z6:=zBk hB63 2;have f60:=zBn hB63 0;have f61:=zBn hB63 1;have f62:=zBn hB63 2;have hlT:=zUxG (ordO part) m.way (fun s hs=>(P1.out.wf.2.2.2.2 s hs).2.2);rw[←hlT]at hown;have hO:=z6a hown;have hnn:∀g',a=some ⟨g',0,none⟩→takenL (ordO part) m.way≠[]→g'≠w.heap.size+1:=fun g' e1 _ e2=>by
    have h:=(hown.lt g' (by rw[e1];rfl)).1;omega
   have hgg:∀g',a=some ⟨g',0,none⟩→w.heap.size≤g':=fun g' e1=>by
    have h:=(hown.lt g' (by rw[e1];rfl)).1;omega
   have HGG:=Hid.mk' hgg;have hbl:Below w.heap.size w w3:=(P1.out.on HB2.out).below.trans (hb3.mono ((P1.out.on HB2.out).below.size));have HX:=Hid.mk' (And.intro hO (And.intro hbl (And.intro hB63 hlT)));clear hO hbl hown hb3 hB62 hlT hB63 hgg;go_wp2;rw[zcM,←QH.out];unfold QQ;have ho:=out3 (Nat.le_succ _) HX.out.2.1 a (takenL (ordO part) m.way) HX.out.1 hnn (.int .i64 1) (.slice a m.way.length c) (.int .i64 b);refine bodyPost_ret (zhj _ _ (w.heap.size+1) _ _ _ (by simp) (set3 HX.out.2.2.1 _ _ _)) rfl ?_;exact⟨a,c,by rw[hr.out,HX.out.2.2.2];rfl,by rw[hr.out];exact ho.1,ho.2,(fun g' e1 _=>HGG.out g' e1)⟩
 |false=>
   have hr:Hid (srun quDo (ordO part) g b false ⟨m.here,m.way,if m.longest.length<m.way.length then takenL (ordO part) m.way else m.longest,0,m.seen⟩=some r):=by
    have h:=S1.out;unfold srun at h;rw[←HM.out,if_neg (by rw[hA];simp)]at h;exact h
   simp only [hA]at hwit;clear S1 hA;have hll:m.longest.length≤9223372036854775807:=by
    obtain⟨_,⟨_,h2⟩|⟨_,_,_,_,_,_,h2,h3,_⟩⟩:=P1.out.lng
    ·omega
    ·unfold maxLen at h3;omega
   by_cases hgt:m.longest.length<m.way.length
   ·have hgz:(m.longest.length:Int)<(m.way.length:Int):=(by omega);go_wp2_with (go_at_call 80;refine(hwit _).mono ?_;rintro e w2 ⟨rfl,hb2⟩;have ht2:=TK.out w2 hb2;have HB2:=Hid.mk' hb2;clear hb2);refine ht2.mono ?_;rintro e w3 ⟨a,c,rfl,hown,hb3⟩;have HX:=Hid.mk' (And.intro hown hb3);clear hown hb3;go_wp2;go_step3;go_step;go_step;have hlT:=zUxG (ordO part) m.way (fun s hs=>(P1.out.wf.2.2.2.2 s hs).2.2);have hown:=HX.out.1;rw[←hlT]at hown;have h:=hr.out;rw[if_pos hgt]at h;refine z7c (BK.out g (by omega) _ _ ?_) rfl;exact⟨b,(⟨m.here,m.way,takenL (ordO part) m.way,0,m.seen⟩:Mch (List UInt8)),b9,bm,b11,ga,oa,wa,a,oc,yc,c,⟨((P1.out.on HB2.out).long HX.out.2 _ a c hown).at_ b (Int.le_refl _) 0 (Nat.zero_le _),h,hb,Nat.le_refl _,hQ0⟩,exU _ _ (by rw[hlT];rfl)⟩
   ·have hgz:¬(m.longest.length:Int)<(m.way.length:Int):=(by omega);go_wp2_with (go_at_call 80;refine(hwit _).mono ?_;rintro e w2 ⟨rfl,hb2⟩;have HB2:=Hid.mk' hb2;clear hb2);go_step3;go_step;go_step;have h:=hr.out;rw[if_neg hgt]at h;refine z7c (BK.out g (by omega) _ _ ?_) rfl;exact⟨b,(⟨m.here,m.way,m.longest,0,m.seen⟩:Mch (List UInt8)),b9,bm,b11,ga,oa,wa,la,oc,yc,lc,⟨(P1.out.on HB2.out).at_ b (Int.le_refl _) 0 (Nat.zero_le _),h,hb,Nat.le_refl _,hQ0⟩,exU _ _ rfl⟩
theorem zF1 (pa:Option Addr) (pc:Nat) (part:List OpV) (b:Int) (w:World) (hr:OAt w pa part) (hl:part.length≤128) (hb: -9223372036854775808≤b∧b≤1000000) (hdo:(∀o,o∈ordO part→ -9223372036854775808≤o.arg∧o.arg≤9223372036854775807)∧Glob w∧Pow w)
 (r:Out) (f0:Nat) (hf0:srun quDo (ordO part) f0 b true ⟨((0,0),[]),[],[],0,[]⟩=some r):
 Calls prog 51 #[.agg #[],.slice pa part.length pc,.int .i64 b] w fun e w'=>∃a c,e=.returned (.agg #[.int .i64 (r.verdict:Int),.slice a r.order.length c,.int .i64 r.left])∧OAt w' a r.order∧Below w.heap.size w w'∧∀g,a=some ⟨g,0,none⟩→r.order≠[]→w.heap.size≤g:=by
 obtain⟨W0,hW0⟩:∃W0,W0=(w.alloc (.cells #[] 62)).alloc (.cells #[.int .i64 0,.slice none 0 0,.int .i64 0] 104):=⟨_,rfl⟩;have hb0:Below w.heap.size w W0:=by rw[hW0];exact(zA _ _).alloc (by simp) _
 have hs0:W0.heap.size=w.heap.size+2:=by rw[hW0];simp
 have hB6:W0.heap[w.heap.size+1]?=some (.cells #[.int .i64 0,.slice none 0 0,.int .i64 0] 104 (0,0)):=by rw[hW0];exact ziF _ _ _ (by simp)
 have hby:=zWm pa pc part W0 (hr.below hb0) hl;have hle:=zYV part;have hah:=fun oa oc W (h:OAt W oa (ordO part))=>zYL oa oc (ordO part) W h (by omega);have hre:=fun oa oc W (h:OAt W oa (ordO part))=>ztU oa oc (ordO part) W h (by omega);rw[hle]at hah hre;unfold grAg at hre;have AH:=Hid.mk' hah;have RE:=Hid.mk' hre;have BY:=Hid.mk' hby
 have FW:=Hid.mk' (forthQ_any w part pa pc r hl hdo (f0+1) f0);have FB:=Hid.mk' (fun n=>And.intro (forthQ_any w part pa pc r hl hdo n n) (backQ_any w part pa pc r hl hdo n n));have HB0:=Hid.mk' (And.intro hb0 (And.intro hs0 hB6));have HF:=Hid.mk' hf0;have HL:=Hid.mk' hle;have hmm:=@run_makeMap prog;clear hah hre hby hdo hr hf0 hb0 hB6 hle;go_enter func51,ntmps51;go_wp2;rw[←hW0];clear hW0;refine z1v (PJQ w part pa pc r) ?first ?pass
 case pass=>
  intro l n a W hJ;have hl1:l=0∨l=1:=by obtain⟨_,_,_,_,_,_,_,_,_,_,_,_,⟨_,_,_,h,_⟩,_⟩:=hJ;omega
  rcases hl1 with rfl|rfl
  ·obtain⟨tail,hf,hw⟩:=(FB.out n).1 a W zG hJ;exact⟨_,hf,wp_seq (wp_skip hw)⟩
  ·obtain⟨tail,hf,hw⟩:=(FB.out n).2 a W zG hJ;exact⟨_,hf,wp_seq (wp_skip hw)⟩
 case first=>
  go_wp2_with (go_at_call 77;refine BY.out.mono ?_;rintro e w1 ⟨oa,oc,rfl,hO,hb1,hgo⟩;have hA1:=AH.out oa oc w1 hO;have H1:=Hid.mk' (And.intro hO (And.intro hb1 hgo));clear hO hb1 hgo);refine hA1.mono ?_;rintro e w2 ⟨rfl,⟨ac,hac,hgr⟩,hb2⟩;have hR2:=RE.out oa oc w2 (H1.out.1.below hb2);have H2:=Hid.mk' (And.intro hac (And.intro hgr hb2));clear hac hgr hb2 hA1;go_wp2_with (go_at_call 79;refine hR2.mono ?_;rintro e w3 ⟨rfl,hb3⟩;have H3:=Hid.mk' hb3;clear hb3);obtain⟨W5,hW5⟩:∃W5,W5=((w3.alloc (.cells #[.int .u64 (retG (ordO part) 0 (0,0)).1,.int .u64 (retG (ordO part) 0 (0,0)).2] 161)).alloc (.map #[] 0)).alloc (.cells #[.int .u64 0,.int .u64 0,.string ⟨#[]⟩] 206):=⟨_,rfl⟩;rw[←hW5];have hPM:=znO (tS:=212) (k:=3) (cs:=csQ) (wfS:=wfQ) (s0:=[]) (Nat.zero_le _) hb HB0.out H1.out H2.out H3.out HL.out hW5;go_step3;go_step;go_step;refine zwL (J:=fun l a' w'=>∃n',n'<f0+1∧PJQ w part pa pc r l n' a' w') (z7c (FW.out _ _ (Nat.le_succ _) ?_) rfl) (fun l a w ⟨n,_,h⟩=>⟨n,h⟩);exact⟨b,(⟨((0,0),[]),[],[],0,[]⟩:Mch (List UInt8)),w3.heap.size,w3.heap.size+1,w3.heap.size+1+1,w1.heap.size,oa,none,none,oc,0,0,⟨hPM,HF.out,hb,Nat.zero_le _,Nat.zero_le _,fun s hs=>by cases hs⟩,exU _ _ rfl⟩
theorem zUt (pa:Option Addr)(pc:Nat)(part:List OpV)(b:Int)(w:World)(hr:OAt w pa part)(hl:part.length≤128)(hb: -9223372036854775808≤b∧b≤1000000)(hdo:(∀o,o∈ordO part→ -9223372036854775808≤o.arg∧o.arg≤9223372036854775807)∧Glob w∧Pow w):
 Calls prog 51 #[.agg #[],.slice pa part.length pc,.int .i64 b] w fun e w'=>∃r a c,Found quDo (ordO part) [] b r∧e=.returned (.agg #[.int .i64 (r.verdict:Int),.slice a r.order.length c,.int .i64 r.left])∧OAt w' a r.order∧Below w.heap.size w w'∧∀g,a=some ⟨g,0,none⟩→r.order≠[]→w.heap.size≤g:=by
 obtain⟨r,f0,hf0⟩:=Found.ends quDo (ordO part) [] b;refine(zF1 pa pc part b w hr hl hb hdo r f0 hf0).mono ?_;rintro e w' ⟨a,c,h1,h2,h3,h4⟩;exact⟨r,a,c,⟨f0,hf0⟩,h1,h2,h3,h4⟩
theorem forthR_any (x y:Bool)(hxy:y=x)(w:World)(part:List OpV)(pa:Option Addr)(pc:Nat)(r:Out)(hl:part.length≤128)(hdo:∀s o,o∈ordO part→wfP s→wfP ((dR x) s o).1)(N n:Nat)(a:Act)(W:World)(hN:n≤N)(hJ:PJR x w part pa pc r 0 n a W):
 ∃tail,findLabel (zss y) 0=some (.seq .skip tail)∧tail.wp Tryz.prog (zLM (fun l a' w'=>∃n',n'<N∧PJR x w part pa pc r l n' a' w') (QR y w r)) a W:=by
 obtain⟨b,m,b9,bm,b11,ga,oa,wa,la,oc,yc,lc,⟨hP,hS,hb,_⟩,u,rfl⟩:=hJ;have hlen:=zYV part;have P1:Hid _:=hP;have S1:Hid (srun (dR x) (ordO part) n b true m=some r):=hS;have LH:Hid _:=hlen;have BK:Hid _:=fun n' (hn:n'≤N) a' W'=>backR_any x y hxy w part pa pc r hl hdo N n' a' W' hn;clear hP hS hlen hdo;obtain⟨g,rfl⟩:∃g,n=g+1:=by
  cases n with
  |zero=>exact absurd S1.out (by simp[srun])
  |succ g=>exact⟨g,rfl⟩
 generalize hJK:(fun(l:Nat) (a':Act) (w':World)=>∃n',n'<N∧PJR x w part pa pc r l n' a' w')=JK at BK⊢;have JH:Hid _:=hJK;clear hJK;generalize hQK:QR y w r=QK at BK⊢;have QH:Hid _:=hQK;clear hQK;clear hxy;cases y
 all_goals
  refine⟨_,rfl,?_⟩;obtain⟨x6,y6,z6,hB6⟩:=P1.out.res;have hB9:=P1.out.must;have hB11:=P1.out.here;have g0:W.cell? ⟨b11,0,none⟩=some (.int .u64 m.here.1.1):=zBk hB11 0;have g1:W.cell? ⟨b11,1,none⟩=some (.int .u64 m.here.1.2):=zBk hB11 1;obtain⟨M,hM⟩:∃M,M=retG (ordO part) 0 (0,0):=⟨_,rfl⟩;rw[←hM]at hB9;have q0:W.cell? ⟨b9,0,none⟩=some (.int .u64 M.1):=zBk hB9 0;have q1:W.cell? ⟨b9,1,none⟩=some (.int .u64 M.2):=zBk hB9 1;have HM:Hid _:=hM;have hwit:=fun W=>zlR M m.here.1 W;unfold grAg at hwit;have hmw:m.way.length≤1000000:=by have h:m.way.length+b.toNat≤1000000:=P1.out.wf.2.2.2.1;omega
  have hlt6:=zBq hB6;have htk:=fun W' (hb':Below W.heap.size W W')=>zT3 oa wa oc yc (ordO part) m.way W' (P1.out.on hb').row.1 (zeQ (fun _=>rfl) (fun _=>rfl) (P1.out.on hb').way) (by omega) (fun s hs=>((P1.out.on hb').wf.2.2.2.2 s hs).2.2);rw[LH.out]at htk;have TK:=Hid.mk' htk;clear htk hM hB9 hB11;cases hA:zJn M m.here.1 with
  |true=>
    have hr:Hid (r=⟨1,takenL (ordO part) m.way,b⟩):=by
     have h:=S1.out;unfold srun at h;rw[←HM.out,if_pos hA]at h;injection h with h;exact h.symm
    simp only [hA]at hwit;clear S1 hA;go_wp2_with (go_at_call 80;refine(hwit _).mono ?_;rintro e w2 ⟨rfl,hb2⟩;have ht2:=TK.out w2 hb2;have hB62:w2.heap[w.heap.size+1]?=_:=(hb2.block _ hlt6).trans hB6;have HB2:=Hid.mk' hb2);refine ht2.mono ?_;rintro e w3 ⟨a,c,rfl,hown,hb3⟩;have hlt62:=zBq hB62;have hB63:w3.heap[w.heap.size+1]?=some (.cells #[x6,y6,z6] 104 (0,0)):=(hb3.block _ hlt62).trans hB62;have c60:w3.cell? ⟨w.heap.size+1,0,none⟩=some x6:=zBk hB63 0;have c61:w3.cell? ⟨w.heap.size+1,1,none⟩=some y6:=zBk hB63 1;have c62:w3.cell? ⟨w.heap.size+1,2,none⟩=some z6:=zBk hB63 2;have f60:=zBn hB63 0;have f61:=zBn hB63 1;have f62:=zBn hB63 2;have hlT:=zUxG (ordO part) m.way (fun s hs=>(P1.out.wf.2.2.2.2 s hs).2.2);rw[←hlT]at hown;have hO:=z6a hown;have hnn:∀g',a=some ⟨g',0,none⟩→takenL (ordO part) m.way≠[]→g'≠w.heap.size+1:=fun g' e1 _ e2=>by
     have h:=(hown.lt g' (by rw[e1];rfl)).1;omega
    have hgg:∀g',a=some ⟨g',0,none⟩→w.heap.size≤g':=fun g' e1=>by
     have h:=(hown.lt g' (by rw[e1];rfl)).1;omega
    have HGG:=Hid.mk' hgg;have hbl:Below w.heap.size w w3:=(P1.out.on HB2.out).below.trans (hb3.mono ((P1.out.on HB2.out).below.size));have HX:=Hid.mk' (And.intro hO (And.intro hbl (And.intro hB63 hlT)));clear hO hbl hown hb3 hB62 hlT hB63 hgg;go_wp2;rw[zcM,←QH.out];unfold QR;have ho:=out3 (Nat.le_succ _) HX.out.2.1 a (takenL (ordO part) m.way) HX.out.1 hnn (.int .i64 1) (.slice a m.way.length c) (.int .i64 b);refine bodyPost_ret (zvb _ _ _ (w.heap.size+1) _ _ _ (by simp) (set3 HX.out.2.2.1 _ _ _)) rfl ?_;exact⟨a,c,by rw[hr.out,HX.out.2.2.2];rfl,by rw[hr.out];exact ho.1,ho.2,(fun g' e1 _=>HGG.out g' e1)⟩
  |false=>
    have hr:Hid (srun (dR x) (ordO part) g b false ⟨m.here,m.way,if m.longest.length<m.way.length then takenL (ordO part) m.way else m.longest,0,m.seen⟩=some r):=by
     have h:=S1.out;unfold srun at h;rw[←HM.out,if_neg (by rw[hA];simp)]at h;exact h
    simp only [hA]at hwit;clear S1 hA;have hll:m.longest.length≤9223372036854775807:=by
     obtain⟨_,⟨_,h2⟩|⟨_,_,_,_,_,_,h2,h3,_⟩⟩:=P1.out.lng
     ·omega
     ·unfold maxLen at h3;omega
    by_cases hgt:m.longest.length<m.way.length
    ·have hgz:(m.longest.length:Int)<(m.way.length:Int):=(by omega);go_wp2_with (go_at_call 80;refine(hwit _).mono ?_;rintro e w2 ⟨rfl,hb2⟩;have ht2:=TK.out w2 hb2;have HB2:=Hid.mk' hb2;clear hb2);refine ht2.mono ?_;rintro e w3 ⟨a,c,rfl,hown,hb3⟩;have HX:=Hid.mk' (And.intro hown hb3);clear hown hb3;go_wp2;go_step3;go_step;go_step;have hlT:=zUxG (ordO part) m.way (fun s hs=>(P1.out.wf.2.2.2.2 s hs).2.2);have hown:=HX.out.1;rw[←hlT]at hown;have h:=hr.out;rw[if_pos hgt]at h;refine z7c (BK.out g (by omega) _ _ ?_) rfl;exact⟨b,(⟨m.here,m.way,takenL (ordO part) m.way,0,m.seen⟩:Mch Ph),b9,bm,b11,ga,oa,wa,a,oc,yc,c,⟨((P1.out.on HB2.out).long HX.out.2 _ a c hown).at_ b (Int.le_refl _) 0 (Nat.zero_le _),h,hb,Nat.le_refl _⟩,exU _ _ (by rw[hlT];rfl)⟩
    ·have hgz:¬(m.longest.length:Int)<(m.way.length:Int):=(by omega);go_wp2_with (go_at_call 80;refine(hwit _).mono ?_;rintro e w2 ⟨rfl,hb2⟩;have HB2:=Hid.mk' hb2;clear hb2);go_step3;go_step;go_step;have h:=hr.out;rw[if_neg hgt]at h;refine z7c (BK.out g (by omega) _ _ ?_) rfl;exact⟨b,(⟨m.here,m.way,m.longest,0,m.seen⟩:Mch Ph),b9,bm,b11,ga,oa,wa,la,oc,yc,lc,⟨(P1.out.on HB2.out).at_ b (Int.le_refl _) 0 (Nat.zero_le _),h,hb,Nat.le_refl _⟩,exU _ _ rfl⟩
def hR (y:Bool):FuncId:=match y with|false=>47|true=>53
def tR (y:Bool):TypeId:=match y with|false=>60|true=>66
theorem zPX (x y:Bool) (hxy:y=x) (pa:Option Addr) (pc:Nat) (part:List OpV) (b:Int) (w:World) (hr:OAt w pa part) (hl:part.length≤128) (hb: -9223372036854775808≤b∧b≤1000000) (hdo:∀s o,o∈ordO part→wfP s→wfP ((dR x) s o).1)
 (r:Out) (f0:Nat) (hf0:srun (dR x) (ordO part) f0 b true ⟨((0,0),(false,0)),[],[],0,[]⟩=some r):
 Calls prog (hR y) #[.agg #[],.slice pa part.length pc,.int .i64 b] w fun e w'=>∃a c,e=.returned (.agg #[.int .i64 (r.verdict:Int),.slice a r.order.length c,.int .i64 r.left])∧OAt w' a r.order∧Below w.heap.size w w'∧∀g,a=some ⟨g,0,none⟩→r.order≠[]→w.heap.size≤g:=by
 obtain⟨W0,hW0⟩:∃W0,W0=(w.alloc (.cells #[] (tR y))).alloc (.cells #[.int .i64 0,.slice none 0 0,.int .i64 0] 104):=⟨_,rfl⟩;have hb0:Below w.heap.size w W0:=by rw[hW0];exact(zA _ _).alloc (by simp) _
 have hs0:W0.heap.size=w.heap.size+2:=by rw[hW0];simp
 have hB6:W0.heap[w.heap.size+1]?=some (.cells #[.int .i64 0,.slice none 0 0,.int .i64 0] 104 (0,0)):=by rw[hW0];exact ziF _ _ _ (by simp)
 have hby:=zWm pa pc part W0 (hr.below hb0) hl;have hle:=zYV part;have hah:=fun oa oc W (h:OAt W oa (ordO part))=>zYL oa oc (ordO part) W h (by omega);have hre:=fun oa oc W (h:OAt W oa (ordO part))=>ztU oa oc (ordO part) W h (by omega);rw[hle]at hah hre;unfold grAg at hre;have AH:=Hid.mk' hah;have RE:=Hid.mk' hre;have BY:=Hid.mk' hby
 have FW:=Hid.mk' (forthR_any x y hxy w part pa pc r hl hdo (f0+1) f0);have FB:=Hid.mk' (fun n=>And.intro (forthR_any x y hxy w part pa pc r hl hdo n n) (backR_any x y hxy w part pa pc r hl hdo n n));have HB0:=Hid.mk' (And.intro hb0 (And.intro hs0 hB6));have HF:=Hid.mk' hf0;have HL:=Hid.mk' hle;have hmm:=@run_makeMap prog;clear hah hre hby hdo hr hf0 hb0 hB6 hle;clear hxy;cases y
 all_goals
  simp only [tR]at hW0;simp only [hR]
  first|go_enter func47,ntmps47|go_enter func53,ntmps53
  go_wp2;rw[←hW0];clear hW0;refine z1v (PJR x w part pa pc r) ?first ?pass
  case pass=>
   intro l n a W hJ;have hl1:l=0∨l=1:=(by obtain⟨_,_,_,_,_,_,_,_,_,_,_,_,⟨_,_,_,h⟩,_⟩:=hJ;omega);rcases hl1 with rfl|rfl
   ·obtain⟨tail,hf,hw⟩:=(FB.out n).1 a W zG hJ;exact⟨_,hf,wp_seq (wp_skip hw)⟩
   ·obtain⟨tail,hf,hw⟩:=(FB.out n).2 a W zG hJ;exact⟨_,hf,wp_seq (wp_skip hw)⟩
  case first=>
   go_wp2_with (go_at_call 77;refine BY.out.mono ?_;rintro e w1 ⟨oa,oc,rfl,hO,hb1,hgo⟩;have hA1:=AH.out oa oc w1 hO;have H1:=Hid.mk' (And.intro hO (And.intro hb1 hgo));clear hO hb1 hgo);refine hA1.mono ?_;rintro e w2 ⟨rfl,⟨ac,hac,hgr⟩,hb2⟩;have hR2:=RE.out oa oc w2 (H1.out.1.below hb2);have H2:=Hid.mk' (And.intro hac (And.intro hgr hb2));clear hac hgr hb2 hA1;go_wp2_with (go_at_call 79;refine hR2.mono ?_;rintro e w3 ⟨rfl,hb3⟩;have H3:=Hid.mk' hb3;clear hb3);obtain⟨W5,hW5⟩:∃W5,W5=((w3.alloc (.cells #[.int .u64 (retG (ordO part) 0 (0,0)).1,.int .u64 (retG (ordO part) 0 (0,0)).2] 161)).alloc (.map #[] 0)).alloc (.cells #[.int .u64 0,.int .u64 0,.bool false,.int .i64 0] 186):=⟨_,rfl⟩;rw[←hW5];have hPM:=znO (tS:=192) (k:=4) (cs:=csP) (wfS:=wfP) (s0:=(false,0)) ⟨by decide,by decide⟩ hb HB0.out H1.out H2.out H3.out HL.out hW5;go_step3;go_step;go_step;refine zwL (J:=fun l a' w'=>∃n',n'<f0+1∧PJR x w part pa pc r l n' a' w') (z7c (FW.out _ _ (Nat.le_succ _) ?_) rfl) (fun l a w ⟨n,_,h⟩=>⟨n,h⟩);exact⟨b,(⟨((0,0),(false,0)),[],[],0,[]⟩:Mch Ph),w3.heap.size,w3.heap.size+1,w3.heap.size+1+1,w1.heap.size,oa,none,none,oc,0,0,⟨hPM,HF.out,hb,Nat.zero_le _⟩,exU _ _ rfl⟩
theorem zyI (x y:Bool)(hxy:y=x)(pa:Option Addr)(pc:Nat)(part:List OpV)(b:Int)(w:World)(hr:OAt w pa part)(hl:part.length≤128)(hb: -9223372036854775808≤b∧b≤1000000)(hdo:∀s o,o∈ordO part→wfP s→wfP ((dR x) s o).1):
 Calls prog (hR y) #[.agg #[],.slice pa part.length pc,.int .i64 b] w fun e w'=>∃r a c,Found (dR x) (ordO part) (false,0) b r∧e=.returned (.agg #[.int .i64 (r.verdict:Int),.slice a r.order.length c,.int .i64 r.left])∧OAt w' a r.order∧Below w.heap.size w w'∧∀g,a=some ⟨g,0,none⟩→r.order≠[]→w.heap.size≤g:=by
 obtain⟨r,f0,hf0⟩:=Found.ends (dR x) (ordO part) (false,0) b;refine(zPX x y hxy pa pc part b w hr hl hb hdo r f0 hf0).mono ?_;rintro e w' ⟨a,c,h1,h2,h3,h4⟩;exact⟨r,a,c,⟨f0,hf0⟩,h1,h2,h3,h4⟩
theorem z8TE (s:Ph)(o:OpV)(hs:wfP s)(ho:wfI o.arg):wfP (stDo s o).1:=by
 unfold stDo;split
 ·split<;>exact hs
 ·split
  ·exact ho
  ·split
   ·exact⟨show(-9223372036854775808:Int)≤0 by decide,show(0:Int)≤9223372036854775807 by decide⟩
   ·exact hs
theorem zp5 (s:Ph)(o:OpV)(hs:wfP s)(ho:wfI o.cl):wfP (lkDo s o).1:=by
 unfold lkDo;split
 ·split
  ·exact ho
  ·exact hs
 ·split
  ·split
   ·exact⟨show(-9223372036854775808:Int)≤0 by decide,show(0:Int)≤9223372036854775807 by decide⟩
   ·exact hs
  ·exact hs
theorem zDU (pa:Option Addr)(pc:Nat)(part:List OpV)(b:Int)(w:World)(hr:OAt w pa part)(hl:part.length≤128)(hb: -9223372036854775808≤b∧b≤1000000)(ha:∀o∈part,wfI o.arg):
 Calls Tryz.prog 47 #[.agg #[],.slice pa part.length pc,.int .i64 b] w fun e w'=>∃r a c,Found stDo (ordO part) (false,0) b r∧e=.returned (.agg #[.int .i64 (r.verdict:Int),.slice a r.order.length c,.int .i64 r.left])∧OAt w' a r.order∧Below w.heap.size w w'∧∀g,a=some ⟨g,0,none⟩→r.order≠[]→w.heap.size≤g:=
 zyI false false rfl pa pc part b w hr hl hb (fun s o ho hs=>z8TE s o hs (zRPi (p:=fun o=>wfI o.arg) part ⟨by decide,by decide⟩ ha o ho))
theorem zpP (pa:Option Addr)(pc:Nat)(part:List OpV)(b:Int)(w:World)(hr:OAt w pa part)(hl:part.length≤128)(hb: -9223372036854775808≤b∧b≤1000000)(ha:∀o∈part,wfI o.cl):
 Calls Tryz.prog 53 #[.agg #[],.slice pa part.length pc,.int .i64 b] w fun e w'=>∃r a c,Found lkDo (ordO part) (false,0) b r∧e=.returned (.agg #[.int .i64 (r.verdict:Int),.slice a r.order.length c,.int .i64 r.left])∧OAt w' a r.order∧Below w.heap.size w w'∧∀g,a=some ⟨g,0,none⟩→r.order≠[]→w.heap.size≤g:=
 zyI true true rfl pa pc part b w hr hl hb (fun s o ho hs=>zp5 s o hs (zRPi (p:=fun o=>wfI o.cl) part ⟨by decide,by decide⟩ ha o ho))
theorem zSX (pa:Option Addr)(pc:Nat)(part:List OpV)(b:Int)(w:World)(hr:OAt w pa part)(hl:part.length≤128)(hb: -9223372036854775808≤b∧b≤1000000)(ha:∀o∈part,wfI o.arg)(hG:Glob w)(hp:Pow w):
 Calls Tryz.prog 51 #[.agg #[],.slice pa part.length pc,.int .i64 b] w fun e w'=>∃r a c,Found quDo (ordO part) [] b r∧e=.returned (.agg #[.int .i64 (r.verdict:Int),.slice a r.order.length c,.int .i64 r.left])∧OAt w' a r.order∧Below w.heap.size w w'∧∀g,a=some ⟨g,0,none⟩→r.order≠[]→w.heap.size≤g:=
 zUt pa pc part b w hr hl hb ⟨fun o ho=>zRPi (p:=fun o=>wfI o.arg) part ⟨by decide,by decide⟩ ha o ho,hG,hp⟩
end Go.Proofs.YtbbkihekjdffpaaGreatDoor.srch
