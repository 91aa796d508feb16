/- Several texts in one. -/
import Derived.Test.YtlkidmafomjhgaaGreatDoorSrchYBB
import Derived.Test.YtlkidmafomjhgaaGreatDoorSrchYI
import Derived.Test.YtlkidmafomjhgaaGreatDoorSrchYQQ
import Derived.Test.YtlkidmafomjhgaaGreatDoorSrchYRR
import Derived.Laws.Bits64b
namespace Go.Proofs.YtlkidmafomjhgaaGreatDoor.srch
open Go.RowKit
theorem zd8 (x:Nat) (hx:x < 18446744073709551616) (k:Nat):(bits .and .u64 ((x:Int) / 2 ^ k) 1 != 0)=x.testBit k:=by
 have e:((x:Int) / 2 ^ k)=((x / 2 ^ k:Nat):Int):=by norm_cast
 rw [e,show (1:Int)=((1:Nat):Int) from rfl,bits_and_u64_nat _ _ (Nat.lt_of_le_of_lt (Nat.div_le_self _ _) hx) (by omega)]
 rw [Nat.testBit,Nat.shiftRight_eq_div_pow,Nat.and_comm]
 cases h:(1 &&& x / 2 ^ k) with
 | zero=>simp
 | succ n=>simp;omega
theorem z86 (k:Nat) (h:k < 64):IntKind.u64.wrap (2 ^ k)=((2 ^ k:Nat):Int):=by
 have h1:2 ^ k < 18446744073709551616:=Nat.pow_lt_pow_right (m:=k) (n:=64) (by omega) h
 rw [IntKind.wrap_u64]
 have e:((2:Int) ^ k)=((2 ^ k:Nat):Int):=by norm_cast
 rw [e]
 generalize 2 ^ k=z at h1 ⊢
 omega
theorem zMj (x:Nat) (hx:x < 18446744073709551616) (k:Nat) (hk:k < 64):bits .or .u64 (x:Int) (IntKind.u64.wrap (2 ^ k))=((x ||| 2 ^ k:Nat):Int):=by
 have h1:2 ^ k < 2 ^ 64:=Nat.pow_lt_pow_right (by omega) hk
 rw [z86 k hk]
 exact bits_or_u64_nat x (2 ^ k) hx (by omega)
theorem zx7 {g:Gr} (hg:wfG g) (p q:Nat) (hp:p < 128) (hq:q < 128):gHas (zdS g p) q=(decide (p=q)||gHas g q):=by
 obtain ⟨x,y⟩:=g
 obtain ⟨⟨a1,a2⟩,b1,b2⟩:=hg
 dsimp only at a1 a2 b1 b2
 obtain ⟨x,rfl⟩:=Int.eq_ofNat_of_zero_le a1
 obtain ⟨y,rfl⟩:=Int.eq_ofNat_of_zero_le b1
 have hx:x < 18446744073709551616:=by omega
 have hy:y < 18446744073709551616:=by omega
 have hor:∀ z k:Nat,z < 18446744073709551616→k < 64→z ||| 2 ^ k < 18446744073709551616:=fun z k hz hk=>Nat.or_lt_two_pow (n:=64) hz (Nat.pow_lt_pow_right (by omega) hk)
 have hpm:p % 64 < 64:=Nat.mod_lt _ (by omega)
 unfold gHas zdS
 dsimp only
 by_cases h1:p < 64
 · rw [if_pos h1]
   dsimp only
   rw [zMj x hx _ hpm]
   by_cases h2:q < 64
   · rw [if_pos h2,if_pos h2,zd8 _ (hor x _ hx hpm),zd8 x hx,Nat.testBit_or,Nat.testBit_two_pow,Bool.or_comm]
     congr 1
     rw [Nat.mod_eq_of_lt h1,Nat.mod_eq_of_lt h2]
   · rw [if_neg h2,if_neg h2]
     have:decide (p=q)=false:=decide_eq_false (by omega)
     rw [this];rfl
 · rw [if_neg h1]
   dsimp only
   rw [zMj y hy _ hpm]
   by_cases h2:q < 64
   · rw [if_pos h2,if_pos h2]
     have:decide (p=q)=false:=decide_eq_false (by omega)
     rw [this];rfl
   · rw [if_neg h2,if_neg h2,zd8 _ (hor y _ hy hpm),zd8 y hy,Nat.testBit_or,Nat.testBit_two_pow,Bool.or_comm]
     congr 1
     apply decide_eq_decide.2
     omega
theorem z4a (q:Nat):gHas (0,0) q=false:=by
 unfold gHas
 have h:=zd8 0 (by omega) (q % 64)
 split <;> · rw [show (((0:Nat):Int))=0 from rfl] at h;rw [h];exact Nat.zero_testBit _
theorem zLl (n:Nat):∀ l:List Nat,l.Nodup→(∀ x∈l,x < n)→l.length≤n:=by
 induction n with
 | zero=>
   intro l _ h
   cases l with
   | nil=>simp
   | cons a t=>exact absurd (h a (by simp)) (by omega)
 | succ n ih=>
   intro l hd h
   have h1:=ih (l.filter (fun x=>x≠n)) (hd.filter _) (fun x hx=>by have hx2:=List.mem_filter.1 hx;have:=h x hx2.1;have h3:x≠n:=(by simpa using hx2.2);omega)
   have h2:l.count n≤1:=List.nodup_iff_count.1 hd n
   have h3:=List.length_eq_countP_add_countP (fun x=>decide (x≠n)) (l:=l)
   rw [List.countP_eq_length_filter] at h3
   have h4:List.countP (fun a=>decide ¬(decide (a≠n))=true) l=l.count n:=by
    rw [List.count]
    congr 1
    funext a
    by_cases ha:a=n <;> simp [ha]
   omega
section
variable {σ:Type}
def setW (l:List (Stp σ)):Gr:=l.foldl (fun g s=>zdS g s.pl) (0,0)
theorem zgr (l:List (Stp σ)) (q:Nat) (hq:q < 128):∀ g:Gr,wfG g→(∀ s∈l,s.pl < 128)→gHas (l.foldl (fun g s=>zdS g s.pl) g) q=(decide (q∈l.map (·.pl))||gHas g q):=by
 induction l with
 | nil=>intro g _ _;simp
 | cons s t ih=>
   intro g hg hl
   rw [List.foldl_cons,ih _ (zgs hg _) (fun x hx=>hl x (by simp [hx])),zx7 hg _ _ (hl s (by simp)) hq,←Bool.or_assoc]
   congr 1
   rw [show decide (s.pl=q)=decide (q=s.pl) from decide_eq_decide.2 eq_comm]
   by_cases h1:q∈t.map (·.pl) <;> by_cases h2:q=s.pl <;> simp [h1,h2]
theorem zOX:wfG (0,0):=⟨⟨by decide,by decide⟩,by decide,by decide⟩
theorem zsQ (l:List (Stp σ)) (q:Nat) (hq:q < 128) (hl:∀ s∈l,s.pl < 128):gHas (setW l) q=decide (q∈l.map (·.pl)):=by
 unfold setW
 rw [zgr l q hq _ zOX hl,z4a,Bool.or_false]
theorem z50 (l:List (Stp σ)) (s:Stp σ):setW (l++[s])=zdS (setW l) s.pl:=by
 unfold setW
 rw [List.foldl_append]
 rfl
structure Inv (ops:List OpV) (m:Mch σ):Prop where
 here:m.here.1=setW m.way
 nd:(m.way.map (·.pl)).Nodup
 lt:∀ s∈m.way,s.pl < ops.length
 pre:∀ l s l',m.way=l++s::l'→s.g=setW l
 lng:m.longest.length≤ops.length∧∀ o∈m.longest,o∈ops
theorem zZV {l:List (Stp σ)} {n:Nat} (h1:(l.map (·.pl)).Nodup) (h2:∀ s∈l,s.pl < n):l.length≤n:=by
 have:=zLl n _ h1 (fun x hx=>by obtain ⟨s,hs,rfl⟩:=List.mem_map.1 hx;exact h2 s hs)
 simpa using this
theorem zke {l:List (Stp σ)} (ops:List OpV) (h1:(l.map (·.pl)).Nodup) (h2:∀ s∈l,s.pl < ops.length):(takenL ops l).length≤ops.length∧∀ o∈takenL ops l,o∈ops:=by
 refine ⟨Nat.le_trans (List.length_filterMap_le _ _) (zZV h1 h2),fun o ho=>?_⟩
 obtain ⟨s,_,hs⟩:=List.mem_filterMap.1 ho
 exact List.mem_of_getElem? hs
theorem zYmc [DecidableEq σ] (doit:σ→OpV→σ×Int×Int) (ops:List OpV) (hn:ops.length≤128) {o:OpV} {m:Mch σ} (h:Inv ops m) (ho:ops[m.place]?=some o):Inv ops (look doit ops o m).2:=by
 have hpl:m.place < ops.length:=(List.getElem?_eq_some_iff.1 ho).1
 unfold look
 split
 · exact ⟨h.here,h.nd,h.lt,h.pre,h.lng⟩
 · rename_i hc
   dsimp only
   split
   · exact ⟨h.here,h.nd,h.lt,h.pre,h.lng⟩
   · split
     · exact ⟨h.here,h.nd,h.lt,h.pre,h.lng⟩
     · have hno:gHas m.here.1 m.place=false:=by
        cases hq:gHas m.here.1 m.place with
        | false=>rfl
        | true=>rw [hq] at hc;simp at hc
       have hnm:m.place∉m.way.map (·.pl):=by
        rw [h.here,zsQ _ _ (by omega) (fun s hs=>by have:=h.lt s hs;omega)] at hno
        exact of_decide_eq_false hno
       refine ⟨?_,?_,?_,?_,h.lng⟩
       · dsimp only
         rw [z50,h.here]
       · dsimp only
         rw [List.map_append,List.nodup_append]
         refine ⟨h.nd,by simp,?_⟩
         intro a ha b hb
         simp at hb
         subst hb
         intro e
         subst e
         exact hnm ha
       · intro s hs
         rcases List.mem_append.1 hs with hs | hs
         · exact h.lt s hs
         · rw [List.mem_singleton] at hs
           subst hs
           exact hpl
       · intro l s l' e
         dsimp only at e
         rcases List.eq_nil_or_concat l' with rfl | ⟨l2,y,rfl⟩
         · obtain ⟨e1,e2⟩:=List.append_inj' e rfl
           injection e2 with e2
           subst e1 e2
           exact h.here
         · rw [List.concat_eq_append,←List.cons_append,←List.append_assoc] at e
           obtain ⟨e1,_⟩:=List.append_inj' e rfl
           exact h.pre l s l2 e1
theorem zA8 [DecidableEq σ] (doit:σ→OpV→σ×Int×Int) (ops:List OpV) (hn:ops.length≤128) (f:Nat):∀ (b:Int) (fo:Bool) (m:Mch σ) (r:Out),Inv ops m→srun doit ops f b fo m=some r→r.order.length≤ops.length∧(∀ o∈r.order,o∈ops)∧r.verdict≤2∧(r.left≤b∨r.left=0)∧(b≤r.left∨0≤r.left):=by
 induction f with
 | zero=>intro b fo m r _ h;simp [srun] at h
 | succ f ih=>
   intro b fo m r hi h
   cases fo with
   | true=>
     unfold srun at h
     split at h
     · injection h with h
       subst h
       exact ⟨(zke ops hi.nd hi.lt).1,(zke ops hi.nd hi.lt).2,(by show 1≤2;omega),Or.inl (Int.le_refl _),Or.inl (Int.le_refl _)⟩
     · refine ih _ _ _ _ ?_ h
       refine ⟨hi.here,hi.nd,hi.lt,hi.pre,?_⟩
       dsimp only
       split
       · exact zke ops hi.nd hi.lt
       · exact hi.lng
   | false=>
     unfold srun at h
     cases ho:ops[m.place]? with
     | some o=>
       rw [ho] at h
       dsimp only at h
       split at h
       · injection h with h
         subst h
         exact ⟨Nat.zero_le _,(fun o ho=>by simp at ho),(by show 0≤2;omega),Or.inr rfl,Or.inr (Int.le_refl _)⟩
       · obtain ⟨h1,h2,h3,h4,h5⟩:=ih _ _ _ _ (zYmc doit ops hn hi ho) h
         exact ⟨h1,h2,h3,by omega,by omega⟩
     | none=>
       rw [ho] at h
       dsimp only at h
       cases hl:m.way.getLast? with
       | none=>
         rw [hl] at h
         injection h with h
         subst h
         exact ⟨hi.lng.1,hi.lng.2,(by show 2≤2;omega),Or.inl (Int.le_refl _),Or.inl (Int.le_refl _)⟩
       | some s=>
         rw [hl] at h
         dsimp only at h
         obtain ⟨l,hls⟩:∃ l,m.way=l++[s]:=List.getLast?_eq_some_iff.1 hl
         refine ih _ _ _ _ ?_ h
         refine ⟨?_,?_,?_,?_,hi.lng⟩
         · dsimp only
           rw [hls,List.dropLast_concat]
           exact hi.pre l s [] hls
         · dsimp only
           have:=hi.nd
           rw [hls,List.map_append,List.nodup_append] at this
           rw [hls,List.dropLast_concat]
           exact this.1
         · intro x hx
           dsimp only at hx
           rw [hls,List.dropLast_concat] at hx
           exact hi.lt x (by rw [hls];simp [hx])
         · intro l1 x l2 e
           dsimp only at e
           rw [hls,List.dropLast_concat] at e
           exact hi.pre l1 x (l2++[s]) (by rw [hls,e];simp)
theorem Found.ok [DecidableEq σ] {doit:σ→OpV→σ×Int×Int} {ops:List OpV} (hn:ops.length≤128) {s0:σ} {b:Int} {r:Out} (h:Found doit ops s0 b r):r.order.length≤ops.length∧(∀ o∈r.order,o∈ops)∧r.verdict≤2∧(r.left≤b∨r.left=0)∧(b≤r.left∨0≤r.left):=by
 obtain ⟨f,h⟩:=h
 exact zA8 doit ops hn f b true _ r ⟨rfl,by simp,fun s hs=>by simp at hs,fun l s l' e=>by simp at e,Nat.zero_le _,fun o ho=>by simp at ho⟩ h
end
theorem zQC (s:Int) (o:OpV) (hs:wfI s) (ho:wfI o.arg):wfI (zCI s o).1:=by
 unfold zCI
 split
 · exact hs
 · split
   · exact ho
   · split
     · split
       · exact ho
       · exact hs
     · exact hs
theorem z6C (pa:Option Addr) (pc:Nat) (part:List OpV) (b:Int) (w:World) (hr:OAt w pa part) (hl:part.length≤128) (hb: -9223372036854775808≤b∧b≤1000000) (ha:∀ o∈part,wfI o.arg):
 Calls Tryz.prog 57 #[.agg #[],.slice pa part.length pc,.int .i64 b] w fun e w'=>∃ r a c,Found zCI (ordO part) 0 b r∧e=.returned (.agg #[.int .i64 (r.verdict:Int),.slice a r.order.length c,.int .i64 r.left])∧OAt w' a r.order∧Below w.heap.size w w'∧∀ g,a=some ⟨g,0,none⟩→r.order≠[]→w.heap.size≤g:=
 ztm pa pc part b w hr hl hb (fun s o ho hs=>zQC s o hs (zQP (p:=fun o=>wfI o.arg) part ⟨by decide,by decide⟩ ha o ho))
theorem zSE (pa:Option Addr) (pc:Nat) (part:List OpV) (b:Int) (w:World) (hr:OAt w pa part) (hl:part.length≤128) (hb: -9223372036854775808≤b∧b≤1000000):
 Calls Tryz.prog 65 #[.agg #[],.slice pa part.length pc,.int .i64 b] w fun e w'=>∃ r a c,Found zqY (ordO part) false b r∧e=.returned (.agg #[.int .i64 (r.verdict:Int),.slice a r.order.length c,.int .i64 r.left])∧OAt w' a r.order∧Below w.heap.size w w'∧∀ g,a=some ⟨g,0,none⟩→r.order≠[]→w.heap.size≤g:=
 zXN pa pc part b w hr hl hb (fun _ _ _ _=>trivial)
theorem zzE {σ:Type} [DecidableEq σ] {doit:σ→OpV→σ×Int×Int} {part:List OpV} {s0:σ} {b:Int} {r:Out} (hl:part.length≤128) (h:Found doit (ordO part) s0 b r) {p:OpV→Prop} (h0:p default) (hp:∀ o∈part,p o):
 r.order.length≤part.length∧(∀ o∈r.order,p o)∧r.verdict≤2∧(r.left≤b∨r.left=0)∧(b≤r.left∨0≤r.left):=by
 have hn:=zZVs part
 obtain ⟨h1,h2,h3,h4⟩:=Found.ok (by omega) h
 exact ⟨by omega,fun o ho=>zQP part h0 hp o (h2 o ho),h3,h4⟩
theorem z8TE (s:Ph) (o:OpV) (hs:wfP s) (ho:wfI o.arg):wfP (stDo s o).1:=by
 unfold stDo
 split
 · split <;> exact hs
 · split
   · exact ho
   · split
     · exact ⟨show (-9223372036854775808:Int)≤0 by decide,show (0:Int)≤9223372036854775807 by decide⟩
     · exact hs
theorem zp5 (s:Ph) (o:OpV) (hs:wfP s) (ho:wfI o.cl):wfP (lkDo s o).1:=by
 unfold lkDo
 split
 · split
   · exact ho
   · exact hs
 · split
   · split
     · exact ⟨show (-9223372036854775808:Int)≤0 by decide,show (0:Int)≤9223372036854775807 by decide⟩
     · exact hs
   · exact hs
theorem zCU (pa:Option Addr) (pc:Nat) (part:List OpV) (b:Int) (w:World) (hr:OAt w pa part) (hl:part.length≤128) (hb: -9223372036854775808≤b∧b≤1000000) (ha:∀ o∈part,wfI o.arg):
 Calls Tryz.prog 60 #[.agg #[],.slice pa part.length pc,.int .i64 b] w fun e w'=>∃ r a c,Found stDo (ordO part) (false,0) b r∧e=.returned (.agg #[.int .i64 (r.verdict:Int),.slice a r.order.length c,.int .i64 r.left])∧OAt w' a r.order∧Below w.heap.size w w'∧∀ g,a=some ⟨g,0,none⟩→r.order≠[]→w.heap.size≤g:=
 zyI false false rfl pa pc part b w hr hl hb (fun s o ho hs=>z8TE s o hs (zQP (p:=fun o=>wfI o.arg) part ⟨by decide,by decide⟩ ha o ho))
theorem zoP (pa:Option Addr) (pc:Nat) (part:List OpV) (b:Int) (w:World) (hr:OAt w pa part) (hl:part.length≤128) (hb: -9223372036854775808≤b∧b≤1000000) (ha:∀ o∈part,wfI o.cl):
 Calls Tryz.prog 66 #[.agg #[],.slice pa part.length pc,.int .i64 b] w fun e w'=>∃ r a c,Found lkDo (ordO part) (false,0) b r∧e=.returned (.agg #[.int .i64 (r.verdict:Int),.slice a r.order.length c,.int .i64 r.left])∧OAt w' a r.order∧Below w.heap.size w w'∧∀ g,a=some ⟨g,0,none⟩→r.order≠[]→w.heap.size≤g:=
 zyI true true rfl pa pc part b w hr hl hb (fun s o ho hs=>zp5 s o hs (zQP (p:=fun o=>wfI o.cl) part ⟨by decide,by decide⟩ ha o ho))
theorem zSX (pa:Option Addr) (pc:Nat) (part:List OpV) (b:Int) (w:World) (hr:OAt w pa part) (hl:part.length≤128) (hb: -9223372036854775808≤b∧b≤1000000) (ha:∀ o∈part,wfI o.arg) (hG:Glob w) (hp:Pow w):
 Calls Tryz.prog 64 #[.agg #[],.slice pa part.length pc,.int .i64 b] w fun e w'=>∃ r a c,Found quDo (ordO part) [] b r∧e=.returned (.agg #[.int .i64 (r.verdict:Int),.slice a r.order.length c,.int .i64 r.left])∧OAt w' a r.order∧Below w.heap.size w w'∧∀ g,a=some ⟨g,0,none⟩→r.order≠[]→w.heap.size≤g:=
 zUt pa pc part b w hr hl hb ⟨fun o ho=>zQP (p:=fun o=>wfI o.arg) part ⟨by decide,by decide⟩ ha o ho,hG,hp⟩
end Go.Proofs.YtlkidmafomjhgaaGreatDoor.srch
