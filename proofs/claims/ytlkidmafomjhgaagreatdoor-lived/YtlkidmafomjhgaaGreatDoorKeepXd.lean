/- Several texts in one. -/
import Derived.Test.YtlkidmafomjhgaaGreatDoorKeepXc
namespace Go.Proofs.YtlkidmafomjhgaaGreatDoor.keep
open Go.RowKit
open srch (LinP zsN Legal zpq zCI zkp say JudgedOf zl7 zSm zAl Judged ordO ahB)
theorem Lives.kl {al:Bool} {i:Nat} {ops:List OpV} {lines:List (List UInt8)} {keys:List Nat} {ls:Nat→List Int} {dn:List (Nat×Int×Int)} (h:Lives al i ops lines keys ls dn):KL i keys ops:=by
 induction h with
 | nil=>exact ⟨rfl,by simp⟩
 | @call ops lines keys ls dn h cl d hc hf hal ih=>
   obtain ⟨k,kk,arg,exp,d',q1,q2,q3,q4,q5,q6,q7,q8,q9,q10⟩:=zTV i cl ops.length lines.length d
   rw [q9]
   exact ih.snoc _ kk q2 q10 (by rw [q7])
 | did h j k kk o hj hr hk hn hkk hd ih=>exact ih
 | ret h j k o vk vn d hj hr hk hn hv hd ih=>exact ih.set hj rfl
theorem Lives.cut {al:Bool} {i:Nat} {ops:List OpV} {lines:List (List UInt8)} {keys:List Nat} {ls:Nat→List Int} {dn:List (Nat×Int×Int)} (h:Lives al i ops lines keys ls dn):∀ c,c≤lines.length→∃ ops' keys' ls' dn',Lives al i ops' (lines.take c) keys' ls' dn':=by
 have hsn:∀ (lines:List (List UInt8)) (x:List UInt8) (c:Nat),c≤lines.length→(lines++[x]).take c=lines.take c:=fun lines x c hc=>List.take_append_of_le_length hc
 have hall:∀ (lines:List (List UInt8)) (x:List UInt8),(lines++[x]).take (lines.length+1)=lines++[x]:=fun lines x=>List.take_of_length_le (by simp)
 induction h with
 | nil=>intro c hc;exact ⟨_,_,_,_,by simpa using Lives.nil⟩
 | @call ops lines keys ls dn h cl d hc hf hal ih=>
   intro c hcl
   by_cases e:c≤lines.length
   · rw [hsn _ _ _ e];exact ih c e
   · obtain rfl:c=lines.length+1:=by simp at hcl;omega
     rw [hall];exact ⟨_,_,_,_,.call h cl d hc hf hal⟩
 | did h j k kk o hj hr hk hn hkk hd ih=>exact ih
 | @ret ops lines keys ls dn h j k o vk vn d hj hr hk hn hv hd ih=>
   intro c hcl
   by_cases e:c≤lines.length
   · rw [hsn _ _ _ e];exact ih c e
   · obtain rfl:c=lines.length+1:=by simp at hcl;omega
     rw [hall];exact ⟨_,_,_,_,.ret h j k o vk vn d hj hr hk hn hv hd⟩
theorem Tells.g {i:Nat} {ops:List OpV} {lines:List (List UInt8)} (h:Tells i ops lines) (hl:lines.length≤128):TellsG i ops lines:=by
 induction h with
 | nil=>exact .nil
 | @call ops lines h cl d hc hf ih=>
   have hl':lines.length+1≤128:=by simpa using hl
   obtain ⟨k,kk,arg,exp,d',q1,q2,q3,q4,q5,q6,q7,q8,q9,q10⟩:=zTV i cl ops.length lines.length d
   rw [q7,q8]
   have:=h.len
   refine .call (ih (by omega)) k kk _ cl arg exp d' q1 q2 ⟨by omega,by omega⟩ ⟨by omega,by omega⟩ q3 q4 q5 q6 (fun o ho=>?_) hf
   obtain ⟨j,hj⟩:=List.mem_iff_getElem?.1 ho
   have h1:=h.ids j o hj
   have h2:=(List.getElem?_eq_some_iff.1 hj).1
   omega
 | @ret ops lines h j k o vk vn d hj hr hk hn hv ih=>
   have hl':lines.length+1≤128:=by simpa using hl
   exact .ret (ih (by omega)) j k o vk vn d hj hr hk hn (z9q hv)
def sOrd:List UInt8:=[79,75,32,111,114,100,101,114,61]
theorem zlM {v:Nat×List UInt8×List (List OpV)} (h:v.1=1):∃ r,say v=sOrd++r:=by
 unfold say
 rw [if_neg (by omega),if_neg (by omega)]
 exact ⟨_,List.append_assoc _ _ _⟩
theorem zcl {al:Bool} {i:Nat} (hi:i < 5) {ops:List OpV} {lines:List (List UInt8)} {keys:List Nat} {ls:Nat→List Int} {dn:List (Nat×Int×Int)} (h:Lives al i ops lines keys ls dn) (hl:lines.length≤18) {b:Int} (hb:1000000≤b) {x:List UInt8} (hr:zkp (modS i) (zhe lines) b x):∃ r,x=sOrd++r:=by
 have ht:=h.tells
 have hg:=ht.g (by omega)
 have hrd:=(zGe i hi hg (by omega)).1
 have hn:=ht.few hl
 have hcl:∀ o∈ops,o.cl∈[(-1:Int),0,1]:=fun o ho=>by have:=ht.cls o ho;simp;omega
 obtain ⟨m,hd⟩:=zAl hrd
 have hm:zNI (modS i) opTab=true:=by
  obtain rfl | rfl | rfl | rfl | rfl:i=0∨i=1∨i=2∨i=3∨i=4:=by omega
  all_goals decide
 rcases hr with ⟨k',_⟩ | ⟨_,⟨l,r,e,_⟩ | ⟨ops',v,e,j,rfl⟩⟩
 · rw [hm] at k';cases k'
 · rw [hrd] at e;cases e
 · rw [hrd] at e
   injection e with e
   subst e
   rw [show min b 1000000=1000000 by omega] at j
   rcases zSm [-1,0,1] rfl j hcl hn hd.nodup hd.lined with ⟨h1,_⟩ | ⟨_,h2⟩
   · exact zlM h1
   · exact absurd (h.lin hi h.kl) h2
def cOp (n m j:Nat):OpV:=⟨(j:Int),(j:Int),[119,114,105,116,101],[],(j:Int),0,(j:Int)+1,if j < m then (n:Int)+(j:Int)+1 else 0,0,0⟩
def cOps (n m:Nat):List OpV:=(List.range n).map (cOp n m)
def zj5 (j:Nat):List UInt8:=(zdF false (j:Int) (j:Int) [119,114,105,116,101] (j:Int) 0 0 []).1
def cRet (j:Nat):List UInt8:=(zZ7 (j:Int) 0 0 []).1
def z5j (n m:Nat):List (List UInt8):=(List.range n).map zj5++(List.range m).map cRet
theorem znQ (n:Nat) (hn:n≤61):∀ m,m≤n→TellsG 0 (cOps n m) (z5j n m):=by
 have h0:∀ q,q≤61→TellsG 0 (cOps q 0) (z5j q 0):=by
  intro q
  induction q with
  | zero=>intro _;exact .nil
  | succ q ih=>
    intro hq
    have:=TellsG.call (ih (by omega)) 1 0 (q:Int) (q:Int) (q:Int) 0 [] (by decide) (by decide) ⟨by omega,by omega⟩ ⟨by omega,by omega⟩ ⟨by omega,by omega⟩ ⟨by omega,by omega⟩ (fun h=>absurd h (by decide)) (fun _=>rfl)
     (fun o ho=>by
      obtain ⟨j,hj,rfl⟩:=List.mem_map.1 ho
      have:=List.mem_range.1 hj
      show (j:Int)≠q
      omega)
     (fun o ho hc=>by
      obtain ⟨j,hj,rfl⟩:=List.mem_map.1 ho
      have:=List.mem_range.1 hj
      have hc':(j:Int)=q:=hc
      omega)
    have e1:cOps (q+1) 0=cOps q 0++[⟨(q:Int),(q:Int),opS 0 1,[],(q:Int),0,(q:Int)+1,0,0,0⟩]:=by
     unfold cOps
     rw [List.range_succ,List.map_append]
     congr 1
    have e2:z5j (q+1) 0=z5j q 0++[(zdF (zSt 0) (q:Int) (q:Int) (opS 0 1) (q:Int) 0 0 []).1]:=by
     unfold z5j
     rw [List.range_succ,List.map_append]
     simp [zj5,zSt,opS]
    have e3:(z5j q 0).length=q:=by simp [z5j]
    rw [e3] at this
    rw [e1,e2]
    exact this
 intro m
 induction m with
 | zero=>intro _;exact h0 n hn
 | succ m ih=>
   intro hm
   have e3:(z5j n m).length=n+m:=by simp [z5j]
   have:=TellsG.ret (ih (by omega)) m 1 (cOp n m m) 0 0 [] (by unfold cOps;rw [List.getElem?_map,List.getElem?_range (by omega)];rfl) (by show (if m < m then _ else _)=(0:Int);rw [if_neg (by omega)]) (by decide) rfl (show zXm 0 1 0 0 from ⟨rfl,rfl⟩)
   have e1:cOps n (m+1)=(cOps n m).set m { cOp n m m with vk:=0,vn:=0,ret:=((z5j n m).length:Int)+1 }:=by
    apply List.ext_getElem?
    intro a
    unfold cOps
    rw [List.getElem?_map]
    by_cases ea:m=a
    · subst ea
      rw [List.getElem?_set_self (by simp;omega),List.getElem?_range (by omega),e3]
      show some (cOp n (m+1) m)=_
      unfold cOp
      rw [if_pos (by omega)]
      simp
    · rw [List.getElem?_set_ne ea,List.getElem?_map]
      by_cases ha:a < n
      · rw [List.getElem?_range ha]
        show some (cOp n (m+1) a)=some (cOp n m a)
        unfold cOp
        by_cases hlt:a < m
        · rw [if_pos hlt,if_pos (by omega)]
        · rw [if_neg hlt,if_neg (by omega)]
      · rw [List.getElem?_eq_none (by simp;omega)];rfl
   have e2:z5j n (m+1)=z5j n m++[(zZ7 (cOp n m m).id 0 0 []).1]:=by
    unfold z5j
    rw [List.range_succ,List.map_append,←List.append_assoc]
    rfl
   rw [e1,e2]
   exact this
theorem zs8 (s:Int) (l:List OpV) (h:∀ o∈l,o.name=[119,114,105,116,101]∧o.vk=0∧o.vn=0):zpq zCI s l:=by
 induction l generalizing s with
 | nil=>exact trivial
 | cons o r ih=>
   obtain ⟨h1,h2,h3⟩:=h o (by simp)
   refine ⟨fun _=>?_,ih _ (fun x hx=>h x (by simp [hx]))⟩
   rw [h2,h3]
   unfold zCI
   rw [if_neg (by rw [h1];decide),if_pos h1]
theorem zE4 (n:Nat):LinP zCI 0 (cOps n n):=by
 have hm:∀ o∈cOps n n,∃ j,j < n∧o=cOp n n j:=fun o ho=>by
  obtain ⟨j,hj,rfl⟩:=List.mem_map.1 ho
  exact ⟨j,List.mem_range.1 hj,rfl⟩
 refine ⟨cOps n n,⟨?_,fun _ h=>h,fun l1 o l2 e o' ho' ha=>?_,zs8 0 _ (fun o ho=>by obtain ⟨j,_,rfl⟩:=hm o ho;exact ⟨rfl,rfl,rfl⟩)⟩,fun _ h _=>h⟩
 · unfold cOps
   rw [List.Nodup,List.pairwise_map]
   refine List.Pairwise.imp ?_ (List.nodup_range (n:=n))
   intro a b hab e
   have:(a:Int)=(b:Int):=congrArg OpV.id e
   omega
 · exfalso
   obtain ⟨j,hj,rfl⟩:=hm o (by rw [e];simp)
   obtain ⟨j',hj',rfl⟩:=hm o' ho'
   have e1:(cOp n n j').ret=(n:Int)+(j':Int)+1:=if_pos hj'
   have e2:(cOp n n j).call=(j:Int)+1:=rfl
   rw [e2] at ha
   unfold ahB at ha
   rw [e1] at ha
   simp at ha
   omega
theorem zvE (n:Nat) (hn:n≤61) {b:Int} {x:List UInt8} (hr:zkp (modS 0) (zhe (z5j n n)) b x):(∃ r,x=sOrd++r)∨x=[85,78,75,78,79,87,78,10]:=by
 have hg:=znQ n hn n (Nat.le_refl _)
 have hrd:=(zGe 0 (by decide) hg (by simp [z5j];omega)).1
 obtain ⟨m,hd⟩:=zAl hrd
 rcases hr with ⟨k',_⟩ | ⟨_,⟨l,r,e,_⟩ | ⟨ops',v,e,j,rfl⟩⟩
 · exact absurd k' (by decide)
 · rw [hrd] at e;cases e
 · rw [hrd] at e
   injection e with e
   subst e
   by_cases hv:v.1=0
   · right;unfold say;rw [if_pos hv]
   · left
     have hJ:Judged (fun p b r=>srch.Found zCI (ordO p) 0 b r) [([45],cOps n n)] (min b 1000000) [] v:=by
      rcases j with ⟨_,j⟩ | ⟨h,_⟩ | ⟨h,_⟩ | ⟨h,_⟩ | ⟨h,_⟩
      · exact j
      all_goals exact absurd h (by decide)
     have hs:=zl7 zCI 0 hJ (fun q hq=>by simp at hq;subst hq;exact ⟨by simp [cOps];omega,hd.nodup⟩) hv
     rcases hs with ⟨h1,_⟩ | ⟨_,l1,nm,p,l2,o,e,_,hno,_⟩
     · exact zlM h1
     · have hp:(nm,p)∈[(([45]:List UInt8),cOps n n)]:=by rw [e];simp
       simp at hp
       rw [hp.2] at hno
       exact absurd (zE4 n) hno
end Go.Proofs.YtlkidmafomjhgaaGreatDoor.keep
namespace Go.Proofs.YtlkidmafomjhgaaGreatDoor.keep
open Go.RowKit
theorem z8Cu (j:Nat):sgnP (j:Int)=digP j:=by unfold sgnP;rw [if_neg (by omega)];simp
theorem ztA (j:Nat):zj5 j=[123,34,99,97,108,108,34,58]++digP j++[44,34,98,121,34,58]++digP j++[44,34,111,112,34,58,34,119,114,105,116,101,34,44,34,97,114,103,34,58]++digP j++[125]:=by
 unfold zj5 zdF
 simp [zZ9,zYs,blankP,z1S,blS,mCall,mBy,mOp,mArg,z8Cu]
theorem z4q (j:Nat):cRet j=[123,34,114,101,116,34,58]++digP j++[44,34,118,97,108,34,58,110,117,108,108,125]:=by
 unfold cRet zZ7
 simp [zZ9,zYs,blankP,z1S,blS,mRet,mVal,zTS,z8Cu]
theorem zTl (ls:List (List UInt8)) (x:List UInt8):zhe (ls++[x])=zhe ls++(x++[10]):=by
 unfold zhe
 rw [List.flatMap_append]
 simp
set_option maxHeartbeats 4000000 in
set_option maxRecDepth 100000 in
theorem zKc (n:Nat) (hn:n≤61) (w:World):
 Calls Tryz.prog 19 #[.int .i64 (n:Int)] w fun e w'=>e=.returned (.string ⟨(zhe (z5j n n)).toArray⟩)∧Below w.heap.size w w':=by
 go_enter Tryz.func19,Tryz.ntmps19
 go_wp2
 go_loopw [3,4] (fun s i wr=>∃ (j:Nat),s=.string ⟨(zhe (z5j j 0)).toArray⟩∧i=.int .i64 (j:Int)∧j≤n∧(zhe (z5j j 0)).length≤100*j∧Below w.heap.size w wr) (fun _ i _=>n - (intOf i).toNat)
 case atStart=>exact ⟨0,rfl,rfl,by omega,by simp [zhe,z5j],Below.refl _ _⟩
 case round=>
  obtain ⟨j,rfl,rfl,hj,htl,hbl⟩:=hrel
  by_cases hin:j < n
  · have hin':(j:Int) < (n:Int):=by omega
    have hE:Hid (zhe (z5j (j+1) 0)=zhe (z5j j 0)++[123,34,99,97,108,108,34,58]++digP j++[44,34,98,121,34,58]++digP j++[44,34,111,112,34,58,34,119,114,105,116,101,34,44,34,97,114,103,34,58]++digP j++[125,10]):=by
     show _=_
     have e:z5j (j+1) 0=z5j j 0++[zj5 j]:=by unfold z5j;rw [List.range_succ,List.map_append];simp
     rw [e,zTl,ztA]
     simp only [List.append_assoc]
     rfl
    have hdl:=zih j (by omega)
    generalize hT:zhe (z5j j 0)=T at*
    have hdg:=zDI j
    generalize digP j=D at*
    go_wp2_with fail
    refine (hdg _ (by omega)).mono ?_
    rintro e w1 ⟨rfl,hb1⟩
    have hbl1:Below w.heap.size w w1:=hbl.trans (hb1.mono hbl.size)
    clear hdg
    go_wp2
    go_roundw
    case rel=>exact ⟨j+1,by rw [hE.out];simp only [←zAs],by go_num,by omega,by rw [hE.out];simp;omega,hbl1⟩
    case measure=>simp [intOf];omega
  · obtain rfl:j=n:=by omega
    have hin':¬ (j:Int) < (j:Int):=by omega
    go_wp2
    clear hin hin' hj
    go_loopw [3,6] (fun s i wr=>∃ (m:Nat),s=.string ⟨(zhe (z5j j m)).toArray⟩∧i=.int .i64 (m:Int)∧m≤j∧(zhe (z5j j m)).length≤100*j+100*m∧Below w.heap.size w wr) (fun _ i _=>j - (intOf i).toNat)
    case atStart=>exact ⟨0,rfl,rfl,by omega,by omega,hbl⟩
    case round=>
     clear hbl htl
     obtain ⟨m,rfl,rfl,hm,htl,hbl⟩:=hrel
     by_cases hin:m < j
     · have hin':(m:Int) < (j:Int):=by omega
       have hE:Hid (zhe (z5j j (m+1))=zhe (z5j j m)++[123,34,114,101,116,34,58]++digP m++[44,34,118,97,108,34,58,110,117,108,108,125,10]):=by
        show _=_
        have e:z5j j (m+1)=z5j j m++[cRet m]:=by unfold z5j;rw [List.range_succ,List.map_append,←List.append_assoc];rfl
        rw [e,zTl,z4q]
        simp only [List.append_assoc]
        rfl
       have hdl:=zih m (by omega)
       generalize hT:zhe (z5j j m)=T at*
       have hdg:=zDI m
       generalize digP m=D at*
       go_wp2_with fail
       refine (hdg _ (by omega)).mono ?_
       rintro e w1 ⟨rfl,hb1⟩
       have hbl1:Below w.heap.size w w1:=hbl.trans (hb1.mono hbl.size)
       clear hdg
       go_wp2
       go_roundw
       case rel=>exact ⟨m+1,by rw [hE.out];simp only [←zAs],by go_num,by omega,by rw [hE.out];simp;omega,hbl1⟩
       case measure=>simp [intOf];omega
     · obtain rfl:m=j:=by omega
       have hin':¬ (m:Int) < (m:Int):=by omega
       go_wp2
       go_ret
       exact ⟨rfl,hbl⟩
end Go.Proofs.YtlkidmafomjhgaaGreatDoor.keep
