/- Several texts in one. -/
import Derived.Test.YtlkidmafomjhgaaGreatDoorKeepXT
namespace Go.Proofs.YtlkidmafomjhgaaGreatDoor.keep
open Go.RowKit
def Ok (a:List UInt8) (r:List Nat):Prop:=∀ t,RU (a++t)=r++RU t∧Lib.validD (a++t)=Lib.validD t
theorem Ok.nil:Ok [] []:=fun _=>⟨rfl,rfl⟩
theorem Ok.app {a b:List UInt8} {r s:List Nat} (h1:Ok a r) (h2:Ok b s):Ok (a++b) (r++s):=fun t=>by
 rw [List.append_assoc,(h1 _).1,(h1 _).2,(h2 _).1,(h2 _).2,List.append_assoc];exact ⟨rfl,rfl⟩
theorem Ok.ascii {a:List UInt8} (h:∀ c∈a,c.toNat < 128):Ok a (nats a):=by
 induction a with
 | nil=>exact Ok.nil
 | cons c l ih=>
   intro t
   have hc:=h c (by simp)
   rw [List.cons_append,z2D c _ hc,Lib.validD_cons c _ hc,(ih (fun x hx=>h x (by simp [hx])) t).1,(ih (fun x hx=>h x (by simp [hx])) t).2]
   exact ⟨rfl,rfl⟩
theorem zLh (l:List UInt8) (h:l≠[]) (hb:¬ ((Lib.decodeL l).1=65533∧(Lib.decodeL l).2=1)):Lib.validD l=Lib.validD (l.drop (Lib.decodeL l).2):=by
 have hfuel:∀ (n:Nat) (l:List UInt8) (f g:Nat),l.length≤n→l.length≤f→l.length≤g→Lib.validGoD f l=Lib.validGoD g l:=by
  intro n
  induction n with
  | zero=>
    intro l f g h _ _
    have:l=[]:=List.length_eq_zero_iff.1 (by omega)
    subst this
    cases f <;> cases g <;> simp [Lib.validGoD]
  | succ n ih=>
    intro l f g h hf hg
    cases l with
    | nil=>cases f <;> cases g <;> simp [Lib.validGoD]
    | cons a t=>
      simp only [List.length_cons] at hf hg h
      obtain ⟨f,rfl⟩:∃ x,f=x+1:=⟨f - 1,by omega⟩
      obtain ⟨g,rfl⟩:∃ x,g=x+1:=⟨g - 1,by omega⟩
      unfold Lib.validGoD
      have hw:=Lib.decodeL_width (a::t)
      rw [ih _ f g (by simp only [List.length_drop,List.length_cons];omega) (by simp only [List.length_drop,List.length_cons];omega) (by simp only [List.length_drop,List.length_cons];omega)]
 have hl:0 < l.length:=List.length_pos_iff.2 h
 have hw:=Lib.decodeL_width l
 obtain ⟨n,hn⟩:∃ n,l.length=n+1:=⟨l.length - 1,by omega⟩
 unfold Lib.validD
 rw [hn,Lib.validGoD,if_neg h,if_neg hb]
 exact hfuel l.length _ _ _ (by simp only [List.length_drop];omega) (by simp only [List.length_drop];omega) (Nat.le_refl _)
theorem Ok.two:Ok [195,169] [233]:=fun t=>by
 have e:Lib.decodeL ([195,169]++t)=(233,2):=by rw [Lib.decodeL_N];simp [Lib.decodeN]
 rw [zLp _ (by simp),zLh _ (by simp) (by rw [e];decide),e]
 exact ⟨rfl,rfl⟩
theorem Ok.four:Ok [240,159,152,128] [128512]:=fun t=>by
 have e:Lib.decodeL ([240,159,152,128]++t)=(128512,4):=by rw [Lib.decodeL_N];simp [Lib.decodeN]
 rw [zLp _ (by simp),zLh _ (by simp) (by rw [e];decide),e]
 exact ⟨rfl,rfl⟩
theorem Ok.bk (d:List Int):Ok (blankP d).1 (nats (blankP d).1):=Ok.ascii (by unfold blankP blS;dsimp only;split <;> decide)
theorem zjP (d:List Int) (R:List Nat):zek (nats (blankP d).1++R)=zek R:=by
 unfold blankP blS
 dsimp only
 split <;> rfl
theorem zca {c:Nat} {R:List Nat} (h:zE1 (c:Int)=false):zek (c::R)=c::R:=by rw [zek,if_neg (by rw [h];simp)]
def ztZ (R:List Nat):Prop:=∀ d u,R=d::u→digB (d:Int)=false
theorem zaF (d:List Int) {R:List Nat} (h:ztZ R):ztZ (nats (blankP d).1++R):=by
 unfold blankP blS
 dsimp only
 split
 · exact h
 · exact h
 all_goals
  intro x u e
  injection e with e1 _
  subst e1
  rfl
theorem zBc (q:List UInt8) (h:∀ c∈nats q,32≤c∧c < 128∧c≠34∧c≠92) (rest:List Nat):∀ (f:Nat) (out:List UInt8),(nats q++34::rest).length < f→z9u f out (nats q++34::rest)=some (out++q,rest):=by
 induction q with
 | nil=>
   intro f out hf
   match f,hf with
   | f+1,_=>show z9u (f+1) out (34::rest)=_;rw [z9u,if_pos (by decide),List.append_nil]
 | cons c t ih=>
   intro f out hf
   match f,hf with
   | f+1,hf=>
     have hc:=h c.toNat (by simp [nats])
     show z9u (f+1) out (c.toNat::(nats t++34::rest))=_
     rw [z9u,if_neg (by simp;omega),if_neg (by omega),if_neg (by simp;omega),zkw c hc.2.1,ih (fun x hx=>h x (by simp [nats] at hx ⊢;exact .inr hx)) f _ (by simp [nats] at hf ⊢;omega)]
     simp
def spR (k p:Nat):List Nat:=match k,p with
 | 0,0=>[97] | 0,_=>[92,117,48,48,54,49]
 | 1,0=>[98,92,34,92,92] | 1,_=>[92,117,48,48,54,50,92,117,48,48,50,50,92,117,48,48,53,67]
 | _,0=>[233,128512] | _,1=>[92,117,48,48,101,57,92,117,100,56,51,100,92,117,68,69,48,48] | _,_=>[233,92,117,68,56,51,68,92,117,100,101,48,48]
theorem Ok.sp (k p:Nat) (hk:k < 3):Ok (spS k p) (spR k p):=by
 obtain rfl | rfl | rfl:k=0∨k=1∨k=2:=by omega
 · rcases p with _ | _ | p
   · exact Ok.ascii (a:=[97]) (by decide)
   all_goals exact Ok.ascii (a:=[92,117,48,48,54,49]) (by decide)
 · rcases p with _ | _ | p
   · exact Ok.ascii (a:=[98,92,34,92,92]) (by decide)
   all_goals exact Ok.ascii (a:=[92,117,48,48,54,50,92,117,48,48,50,50,92,117,48,48,53,67]) (by decide)
 · rcases p with _ | _ | p
   · exact Ok.app Ok.two Ok.four
   · exact Ok.ascii (a:=[92,117,48,48,101,57,92,117,100,56,51,100,92,117,68,69,48,48]) (by decide)
   · exact Ok.app Ok.two (Ok.ascii (a:=[92,117,68,56,51,68,92,117,100,101,48,48]) (by decide))
theorem zqO (k p:Nat) (hk:k < 3) (rest:List Nat) (f:Nat) (hf:(spR k p++34::rest).length < f):z9u f [] (spR k p++34::rest)=some (keyS k,rest):=by
 obtain rfl | rfl | rfl:k=0∨k=1∨k=2:=by omega
 · rcases p with _ | _ | p
   · (obtain ⟨g,rfl⟩:∃ g,f=g+3:=⟨f - 3,by simp [spR] at hf;omega⟩;rfl)
   all_goals (obtain ⟨g,rfl⟩:∃ g,f=g+8:=⟨f - 8,by simp [spR] at hf;omega⟩;rfl)
 · rcases p with _ | _ | p
   · (obtain ⟨g,rfl⟩:∃ g,f=g+7:=⟨f - 7,by simp [spR] at hf;omega⟩;rfl)
   all_goals (obtain ⟨g,rfl⟩:∃ g,f=g+20:=⟨f - 20,by simp [spR] at hf;omega⟩;rfl)
 · rcases p with _ | _ | p
   · (obtain ⟨g,rfl⟩:∃ g,f=g+4:=⟨f - 4,by simp [spR] at hf;omega⟩;rfl)
   · (obtain ⟨g,rfl⟩:∃ g,f=g+20:=⟨f - 20,by simp [spR] at hf;omega⟩;rfl)
   · (obtain ⟨g,rfl⟩:∃ g,f=g+15:=⟨f - 15,by simp [spR] at hf;omega⟩;rfl)
theorem zpV (m:Nat):∀ n,n < m→∃ ds,nats (digP n)=ds∧allD ds∧ds≠[]∧dval 0 ds=n∧(1 < ds.length→ds.headD 0≠48)∧(n≠0→ds.headD 0≠48):=by
 induction m with
 | zero=>intro n h;omega
 | succ m ih=>
   intro n h
   rw [digP]
   by_cases h10:n < 10
   · rw [if_pos h10]
     have e:nats [UInt8.ofNat (48+n)]=[48+n]:=by unfold nats;simp;omega
     refine ⟨_,rfl,?_,?_,?_,?_,?_⟩ <;> rw [e]
     · intro c hc;simp at hc;omega
     · simp
     · show dval (0*10+(48+n - 48)) []=n;show 0*10+(48+n - 48)=n;omega
     · intro h;simp at h
     · intro h;show 48+n≠48;omega
   · rw [if_neg h10]
     obtain ⟨ds,e1,e2,e3,e4,e5,e6⟩:=ih (n / 10) (by omega)
     have e:nats (digP (n / 10)++[UInt8.ofNat (48+n % 10)])=ds++[48+n % 10]:=by unfold nats at e1 ⊢;rw [List.map_append,e1];simp;omega
     refine ⟨_,rfl,?_,?_,?_,?_,?_⟩ <;> rw [e]
     · intro c hc
       rcases List.mem_append.1 hc with hc | hc
       · exact e2 c hc
       · simp at hc;omega
     · simp
     · have happ:∀ (l:List Nat) (a:Nat),dval a (l++[48+n % 10])=dval a l*10+n % 10:=by
        intro l
        induction l with
        | nil=>intro a;show a*10+(48+n % 10 - 48)=a*10+n % 10;omega
        | cons c t ih=>intro a;exact ih _
       rw [happ,e4];omega
     all_goals
      intro _
      have:=e6 (by omega)
      cases ds with
      | nil=>exact absurd rfl e3
      | cons c t=>exact this
theorem zsI {ds:List Nat} (h:allD ds) (hne:ds≠[]) (hv:dval 0 ds < 1000000):Lib.parseUintB 64 (zU1 ds)=.ok (dval 0 ds):=by
 unfold Lib.parseUintB
 have hM:(2:Nat) ^ 64 - 1=18446744073709551615:=by decide
 rw [if_neg (by simpa [zU1] using hne),hM,pum _ rfl ds 0 h (by omega),if_pos (by omega)]
theorem zZk (n:Int) (h0: -1000000 < n) (h1:n < 1000000):∃ neg ds,nats (sgnP n)=(if neg=true then 45::ds else ds)∧allD ds∧ds≠[]∧(1 < ds.length→ds.headD 0≠48)∧Lib.parseIntB 64 (sgnP n)=.ok n:=by
 have hM2:(2:Nat) ^ (64 - 1)=9223372036854775808:=by decide
 unfold sgnP
 by_cases hn:n < 0
 · rw [if_pos hn]
   obtain ⟨ds,e1,e2,e3,e4,e5,e6⟩:=zpV 1000001 n.natAbs (by omega)
   refine ⟨true,ds,by rw [if_pos rfl,←e1];rfl,e2,e3,e5,?_⟩
   have hp:=zsI e2 e3 (by omega)
   rw [←e1,zWB,e1,e4] at hp
   rw [Lib.parseIntB_minus,hp]
   unfold Lib.signedC
   rw [hM2]
   dsimp only
   rw [if_neg (by omega)]
   congr 1
   omega
 · rw [if_neg hn]
   obtain ⟨ds,e1,e2,e3,e4,e5,e6⟩:=zpV 1000001 n.toNat (by omega)
   refine ⟨false,ds,by rw [if_neg (by simp),e1],e2,e3,e5,?_⟩
   have hp:=zsI e2 e3 (by omega)
   rw [←e1,zWB,e1,e4] at hp
   cases hd:digP n.toNat with
   | nil=>rw [hd] at e1;exact absurd e1.symm e3
   | cons c t=>
     rw [hd] at e1 hp
     have hc:48≤c.toNat∧c.toNat≤57:=e2 c.toNat (by rw [←e1];simp [nats])
     rw [Lib.parseIntB_plain 64 c t (by omega) (by omega),hp]
     unfold Lib.signlessC
     rw [hM2]
     dsimp only
     rw [if_neg (by omega)]
     congr 1
     omega
theorem zyT {ds R:List Nat} (h:allD ds) (hR:ztZ R):zva (ds++R)=R:=by
 induction ds with
 | nil=>
   cases R with
   | nil=>rfl
   | cons c t=>rw [List.nil_append,zva,if_neg (by rw [hR c t rfl];simp)]
 | cons c t ih=>
   have hc:=h c (by simp)
   rw [List.cons_append,zva,if_pos (by unfold digB;simp;omega),ih (fun x hx=>h x (by simp [hx]))]
theorem zhd (n:Int) (h0: -1000000 < n) (h1:n < 1000000) (R:List Nat) (hR:ztZ R):intP (nats (sgnP n)++R)=some (n,R)∧∃ c t,nats (sgnP n)=c::t∧(c=45∨48≤c∧c≤57):=by
 obtain ⟨neg,ds,e,hd,hne,hsh,hp⟩:=zZk n h0 h1
 have hmid:(if zEH (ds++R)=48 then (ds++R).tail else zva (ds++R))=R:=by
  cases ds with
  | nil=>exact absurd rfl hne
  | cons c t=>
    show (if (c:Int)=48 then (c::(t++R)).tail else _)=R
    by_cases hc:(c:Int)=48
    · rw [if_pos hc]
      cases t with
      | nil=>rfl
      | cons x y=>exact absurd (show c=48 by omega) (hsh (by simp))
    · rw [if_neg hc];exact zyT hd hR
 have hrest:zDE (nats (sgnP n)++R)=R:=by
  rw [e]
  cases neg with
  | true=>exact hmid
  | false=>
    have hn45:¬ zEH (ds++R)=45:=by
     cases ds with
     | nil=>exact absurd rfl hne
     | cons c t=>have:=hd c (by simp);show ¬ (c:Int)=45;omega
    show zDE (ds++R)=R
    unfold zDE
    simp only [if_neg hn45]
    exact hmid
 have hlt:∀ c∈nats (sgnP n),c < 128:=by
  intro c hc
  rw [e] at hc
  split at hc
  · rcases List.mem_cons.1 hc with rfl | hc
    · decide
    · have:=hd c hc;omega
  · have:=hd c hc;omega
 constructor
 · unfold intP zcA
   rw [hrest,List.length_append,Nat.add_sub_cancel,List.take_left',zGz _ hlt,zWB,hp]
   rfl
 · rw [e]
   split
   · exact ⟨45,ds,rfl,.inl rfl⟩
   · cases ds with
     | nil=>exact absurd rfl hne
     | cons c t=>have:=hd c (by simp);exact ⟨c,t,rfl,.inr this⟩
def Val (r:List Nat) (v:Int×Int×List UInt8):Prop:=∀ R,ztZ R→zFD (r++R)=some (v,R)∧zek (r++R)=r++R
theorem Val.int {n:Int} (h0: -1000000 < n) (h1:n < 1000000):Val (nats (sgnP n)) (1,n,[]):=fun R hR=>by
 obtain ⟨e,c,t,ec,hc⟩:=zhd n h0 h1 R hR
 have hpk:zEH (nats (sgnP n)++R)=(c:Int):=by rw [ec];rfl
 constructor
 · unfold zFD
   rw [hpk,e,if_neg (by simp;omega),if_neg (by simp;omega),if_neg (by simp;omega),if_neg (by simp;omega)]
 · rw [ec];exact zca (by unfold zE1;simp;omega)
theorem Val.text {r:List Nat} {v:List UInt8} (h:∀ rest f,(r++34::rest).length < f→z9u f [] (r++34::rest)=some (v,rest)):Val (34::(r++[34])) (3,0,v):=fun R _=>by
 have e:34::(r++[34])++R=34::(r++34::R):=by simp
 rw [e]
 refine ⟨?_,zca rfl⟩
 have ht:zgn (34::(r++34::R))=some (v,R):=by
  show (if ((34:Nat):Int) == 34 then z9u ((r++34::R).length+1) [] (r++34::R) else none)=_
  rw [if_pos (by decide),h R _ (Nat.lt_succ_self _)]
 unfold zFD
 rw [if_pos (by rfl),ht]
def Memb (m:List UInt8) (x:Mem):Prop:=∃ r,Ok m (34::r)∧∀ R,ztZ R→zcL (34::r++R)=some (x,zek R)
theorem Memb.of {nm b1 b2 v:List UInt8} {r1 r2 rv:List Nat} {x:Int×Int×List UInt8} (hn:∀ c∈nats nm,32≤c∧c < 128∧c≠34∧c≠92) (o1:Ok b1 r1) (s1:∀ R,zek (r1++R)=zek R) (o2:Ok b2 r2) (s2:∀ R,zek (r2++R)=zek R) (ov:Ok v rv) (hv:Val rv x):
 Memb ([34]++nm++[34]++b1++[58]++b2++v) (nm,x):=by
 refine ⟨nats nm++[34]++r1++[58]++r2++rv,?_,fun R hR=>?_⟩
 · have h34:Ok [34] [34]:=Ok.ascii (by decide)
   have h58:Ok [58] [58]:=Ok.ascii (by decide)
   have hnm:Ok nm (nats nm):=Ok.ascii (fun c hc=>(hn c.toNat (List.mem_map.2 ⟨c,hc,rfl⟩)).2.1)
   exact (((((h34.app hnm).app h34).app o1).app h58).app o2).app ov
 · have e:34::(nats nm++[34]++r1++[58]++r2++rv)++R=34::(nats nm++34::(r1++58::(r2++(rv++R)))):=by simp
   rw [e]
   have ht:zgn (34::(nats nm++34::(r1++58::(r2++(rv++R)))))=some (nm,r1++58::(r2++(rv++R))):=by
    show (if ((34:Nat):Int) == 34 then z9u ((nats nm++34::(r1++58::(r2++(rv++R)))).length+1) [] _ else none)=_
    rw [if_pos (by decide),zBc nm hn _ _ _ (Nat.lt_succ_self _)];rfl
   obtain ⟨v1,v2⟩:=hv R hR
   unfold zcL
   rw [ht]
   dsimp only
   rw [s1,zca (c:=58) rfl]
   show (if ((58:Nat):Int) == 58 then (match zFD (zek (r2++(rv++R))) with | none=>none | some (v,r4)=>some ((nm,v),zek r4)) else none)=_
   rw [if_pos (by decide),s2,v2,v1]
theorem Memb.num {nm:List UInt8} {n:Int} (hn:∀ c∈nats nm,32≤c∧c < 128∧c≠34∧c≠92) (h0: -1000000 < n) (h1:n < 1000000) (b0:List Int):Memb ([34]++nm++[34]++(blankP b0).1++[58]++(blankP b0).1++sgnP n) (nm,1,n,[]):=
 Memb.of hn (Ok.bk b0) (zjP b0) (Ok.bk b0) (zjP b0) (Ok.ascii (fun c hc=>by
  obtain ⟨neg,ds,e,hd,_⟩:=zZk n h0 h1
  have:c.toNat∈nats (sgnP n):=List.mem_map.2 ⟨c,hc,rfl⟩
  rw [e] at this
  split at this
  · rcases List.mem_cons.1 this with h | h
    · omega
    · have:=hd _ h;omega
  · have:=hd _ this;omega)) (Val.int h0 h1)
theorem zRp:(blankP []).1=[]:=rfl
theorem Memb.num0 {nm:List UInt8} {n:Int} (hn:∀ c∈nats nm,32≤c∧c < 128∧c≠34∧c≠92) (h0: -1000000 < n) (h1:n < 1000000):Memb ([34]++nm++[34]++[58]++sgnP n) (nm,1,n,[]):=by
 have h:=Memb.num hn h0 h1 []
 rw [zRp,List.append_nil,List.append_nil] at h
 exact h
theorem Memb.val0 {nm v:List UInt8} {rv:List Nat} {x:Int×Int×List UInt8} (hn:∀ c∈nats nm,32≤c∧c < 128∧c≠34∧c≠92) (ov:Ok v rv) (hv:Val rv x):Memb ([34]++nm++[34]++[58]++v) (nm,x):=by
 have h:=Memb.of hn Ok.nil (fun _=>rfl) Ok.nil (fun _=>rfl) ov hv
 rw [List.append_nil,List.append_nil] at h
 exact h
def rotM (ms:List Mem) (f:Nat):Nat→Nat→List Mem
 | 0,_=>[]
 | n+1,i=>ms.getD ((f+i) % ms.length) ([],0,0,[])::rotM ms f n (i+1)
theorem zPS (ms:List Mem) (f:Nat):∀ n i,(rotM ms f n i).length=n:=by
 intro n
 induction n with
 | zero=>intro i;rfl
 | succ n ih=>intro i;simp [rotM,ih]
theorem ziK (ms:List Mem) (f:Nat):∀ n i j,j < n→(rotM ms f n i)[j]?=some (ms.getD ((f+i+j) % ms.length) ([],0,0,[])):=by
 intro n
 induction n with
 | zero=>intro i j h;omega
 | succ n ih=>
   intro i j h
   rw [rotM]
   cases j with
   | zero=>rfl
   | succ j=>rw [List.getElem?_cons_succ,ih (i+1) j (by omega),show f+(i+1)+j=f+i+(j+1) by omega]
theorem zNu (ms:List Mem) (f:Nat) (hf:f < ms.length):rotM ms f ms.length 0=ms.drop f++ms.take f:=by
 apply List.ext_getElem?
 intro j
 by_cases hj:j < ms.length
 · rw [ziK ms f _ 0 j hj,Nat.add_zero]
   have hg:∀ q,q < ms.length→some (ms.getD q ([],0,0,[]))=ms[q]?:=fun q hq=>by rw [List.getD,List.getElem?_eq_getElem hq];rfl
   by_cases h1:f+j < ms.length
   · rw [Nat.mod_eq_of_lt h1,hg _ h1,List.getElem?_append_left (by rw [List.length_drop];omega),List.getElem?_drop]
   · have e:(f+j) % ms.length=f+j - ms.length:=by rw [Nat.mod_eq_sub_mod (by omega),Nat.mod_eq_of_lt (by omega)]
     rw [e,hg _ (by omega),List.getElem?_append_right (by rw [List.length_drop];omega),List.length_drop,List.getElem?_take,if_pos (by omega),show j - (ms.length - f)=f+j - ms.length by omega]
 · rw [List.getElem?_eq_none (by rw [zPS];omega),List.getElem?_eq_none (by rw [List.length_append,List.length_drop,List.length_take];omega)]
theorem zEQ {c:Nat} {R:List Nat} (h:digB (c:Int)=false):ztZ (c::R):=by
 intro d u e
 injection e with e1 _
 rw [←e1];exact h
theorem zF2 (ms:List (List UInt8)) (xs:List Mem) (f:Nat) (hl:xs.length=ms.length) (h0:0 < ms.length) (hm:∀ j,j < ms.length→Memb (ms.getD j []) (xs.getD j ([],0,0,[]))):
 ∀ (n i:Nat) (s:List UInt8) (d:List Int),∃ (body:List UInt8) (rb:List Nat),(zYs ms f n i s d).1=s++body∧Ok body rb∧(n=0→rb=[])∧
  (n≠0→∃ r',rb=(if i=0 then [] else [44])++r'∧(∀ R,∃ u,zek (r'++125::R)=34::u)∧∀ R F acc,(r'++125::R).length < F→zQf F acc (zek (r'++125::R))=some (acc++rotM xs f n i,R)):=by
 intro n
 induction n with
 | zero=>intro i s d;exact ⟨[],[],by simp [zYs],Ok.nil,fun _=>rfl,fun h=>absurd rfl h⟩
 | succ n ih=>
   intro i s d
   obtain ⟨mr,hok,hmp⟩:=hm ((f+i) % ms.length) (Nat.mod_lt _ h0)
   obtain ⟨body,rb,e1,e2,e4,e5⟩:=ih (i+1) ((if i=0 then s else s++[44])++(blankP d).1++ms.getD ((f+i) % ms.length) []++(blankP (blankP d).2).1) (blankP (blankP d).2).2
   have hO:Ok ((blankP d).1++(ms.getD ((f+i) % ms.length) []++((blankP (blankP d).2).1++body))) (nats (blankP d).1++(34::mr++(nats (blankP (blankP d).2).1++rb))):=(Ok.bk _).app (hok.app ((Ok.bk _).app e2))
   have hskip:∀ R,zek (nats (blankP d).1++(34::mr++(nats (blankP (blankP d).2).1++rb))++125::R)=34::mr++(nats (blankP (blankP d).2).1++(rb++125::R)):=fun R=>by
    rw [List.append_assoc,zjP,List.append_assoc,List.append_assoc];exact zca rfl
   have hT:∀ R F acc,(nats (blankP d).1++(34::mr++(nats (blankP (blankP d).2).1++rb))++125::R).length < F→zQf F acc (zek (nats (blankP d).1++(34::mr++(nats (blankP (blankP d).2).1++rb))++125::R))=some (acc++rotM xs f (n+1) i,R):=by
    intro R F acc hF
    rw [hskip R]
    match F,hF with
    | F+1,hF=>
      by_cases hn:n=0
      · obtain rfl:=e4 hn
        subst hn
        rw [zQf,List.nil_append,hmp _ (zaF _ (zEQ rfl)),zjP,zca (c:=125) rfl]
        show some (acc++[xs.getD ((f+i) % ms.length) ([],0,0,[])],R)=_
        rw [←hl];rfl
      · obtain ⟨r',q1,_,q3⟩:=e5 hn
        rw [if_neg (by omega)] at q1
        subst q1
        rw [zQf,show [44]++r'++125::R=44::(r'++125::R) by simp,hmp _ (zaF _ (zEQ (c:=44) rfl)),zjP]
        show (match some (xs.getD ((f+i) % ms.length) ([],0,0,[]),zek (44::(r'++125::R))) with | none=>none | some (m,r)=>if (zEH r == 125) then some (acc++[m],r.tail) else if (zEH r == 44) then zQf F (acc++[m]) (zek r.tail) else none)=_
        rw [zca (c:=44) rfl]
        show zQf F (acc++[xs.getD ((f+i) % ms.length) ([],0,0,[])]) (zek (r'++125::R))=_
        rw [q3 R F _ (by simp at hF ⊢;omega),←hl,List.append_assoc]
        rfl
   have hH:∀ R,∃ u,zek (nats (blankP d).1++(34::mr++(nats (blankP (blankP d).2).1++rb))++125::R)=34::u:=fun R=>⟨_,hskip R⟩
   by_cases hi:i=0
   · refine ⟨_,_,?_,hO,fun h=>absurd h (by omega),fun _=>⟨_,by rw [if_pos hi];rfl,hH,hT⟩⟩
     rw [zYs,e1,if_pos hi];simp only [List.append_assoc]
   · refine ⟨[44]++_,[44]++_,?_,(Ok.ascii (a:=[44]) (by decide)).app hO,fun h=>absurd h (by omega),fun _=>⟨_,by rw [if_neg hi],hH,hT⟩⟩
     rw [zYs,e1,if_neg hi];simp only [List.append_assoc]
theorem zf2 (ms:List (List UInt8)) (xs:List Mem) (d:List Int) (hl:xs.length=ms.length) (h0:0 < ms.length) (hm:∀ j,j < ms.length→Memb (ms.getD j []) (xs.getD j ([],0,0,[]))):
 zIo ⟨(zZ9 ms d).1.toArray⟩=some (rotM xs (z1S ms.length d).1 ms.length 0):=by
 unfold zZ9
 dsimp only
 generalize (z1S ms.length d).1=f
 generalize (z1S ms.length d).2=d1
 obtain ⟨body,rb,e1,e2,e4,e5⟩:=zF2 ms xs f hl h0 hm ms.length 0 ((blankP d1).1++[123]) (blankP d1).2
 obtain ⟨r',r1,r2,r3⟩:=e5 (by omega)
 rw [if_pos rfl,List.nil_append] at r1
 subst r1
 rw [e1]
 generalize (zYs ms f ms.length 0 ((blankP d1).1++[123]) (blankP d1).2).2=d2
 have hO:=((((Ok.bk d1).app (Ok.ascii (a:=[123]) (by decide))).app e2).app (Ok.ascii (a:=[125]) (by decide))).app (Ok.bk d2)
 obtain ⟨o1,o2⟩:=hO []
 rw [List.append_nil] at o1 o2
 unfold zIo
 rw [zpw]
 show (if Lib.validD ((blankP d1).1++[123]++body++[125]++(blankP d2).1)=true then (match zfb (zek (RU ((blankP d1).1++[123]++body++[125]++(blankP d2).1))) with | none=>none | some (ms,r)=>if zek r=[] then some ms else none) else none)=_
 rw [o2,if_pos (by rfl),o1]
 have e:nats (blankP d1).1++nats [123]++rb++nats [125]++nats (blankP d2).1++RU []=nats (blankP d1).1++123::(rb++125::nats (blankP d2).1):=by
  rw [zgF];simp [nats]
 rw [e,zjP,zca (c:=123) rfl]
 have hob:zfb (123::(rb++125::nats (blankP d2).1))=some (rotM xs f ms.length 0,nats (blankP d2).1):=by
  obtain ⟨u,hu⟩:=r2 (nats (blankP d2).1)
  show (if ((123:Nat):Int) == 123 then (if (zEH (zek (rb++125::nats (blankP d2).1)) == 125) then _ else zQf ((123::(rb++125::nats (blankP d2).1)).length+1) [] (zek (rb++125::nats (blankP d2).1))) else none)=_
  rw [if_pos (by decide),if_neg (by rw [hu];show ¬ (((34:Nat):Int) == 125)=true;decide),r3 _ _ _ (by simp;omega),List.nil_append]
 rw [hob]
 dsimp only
 have hsb:=zjP d2 []
 rw [List.append_nil] at hsb
 rw [hsb]
 exact if_pos rfl
def MembL:List (List UInt8)→List Mem→Prop
 | [],[]=>True
 | m::ms,r::rs=>Memb m r∧MembL ms rs
 | _,_=>False
theorem MembL.app:∀ {a:List (List UInt8)} {a':List Mem} {b:List (List UInt8)} {b':List Mem},MembL a a'→MembL b b'→MembL (a++b) (a'++b')
 | [],[],_,_,_,h=>h
 | _::_,_::_,_,_,h1,h2=>⟨h1.1,MembL.app h1.2 h2⟩
 | [],_::_,_,_,h,_=>h.elim
 | _::_,[],_,_,h,_=>h.elim
theorem MembL.get:∀ {a:List (List UInt8)} {a':List Mem},MembL a a'→a'.length=a.length∧∀ j,j < a.length→Memb (a.getD j []) (a'.getD j ([],0,0,[]))
 | [],[],_=>⟨rfl,fun j h=>absurd h (by simp)⟩
 | m::ms,r::rs,h=>by
   obtain ⟨e,f⟩:=MembL.get h.2
   refine ⟨by simp [e],fun j hj=>?_⟩
   cases j with
   | zero=>exact h.1
   | succ j=>exact f j (by simpa using hj)
 | [],_::_,h=>h.elim
 | _::_,[],h=>h.elim
def nn (l:List UInt8):Prop:=∀ c∈l,c≠10
theorem zs4 {a b:List UInt8} (ha:nn a) (hb:nn b):nn (a++b):=by
 intro c hc
 rcases List.mem_append.1 hc with h | h
 · exact ha c h
 · exact hb c h
theorem zuR (n:Int) (h0: -1000000 < n) (h1:n < 1000000):nn (sgnP n):=by
 intro c hc e
 obtain ⟨neg,ds,e1,hd,_⟩:=zZk n h0 h1
 have:c.toNat∈nats (sgnP n):=List.mem_map.2 ⟨c,hc,rfl⟩
 rw [e1,e] at this
 split at this
 · rcases List.mem_cons.1 this with h | h
   · revert h;decide
   · have h:=hd _ h;revert h;decide
 · have h:=hd _ this;revert h;decide
theorem zpa (d:List Int):nn (blankP d).1:=by
 unfold blankP blS nn
 dsimp only
 split <;> decide
theorem zgG (ms:List (List UInt8)) (h:∀ m∈ms,nn m) (d:List Int):nn (zZ9 ms d).1∧(zZ9 ms d).1≠[]:=by
 have hrun:∀ (f n i:Nat) (s:List UInt8) (d:List Int),nn s→nn (zYs ms f n i s d).1:=by
  intro f n
  induction n with
  | zero=>intro i s d hs;exact hs
  | succ n ih=>
    intro i s d hs
    rw [zYs]
    refine ih _ _ _ (zs4 (zs4 (zs4 ?_ (zpa _)) ?_) (zpa _))
    · split
      · exact hs
      · exact zs4 hs (by unfold nn;decide)
    · rw [List.getD]
      cases hq:ms[(f+i) % ms.length]? with
      | none=>unfold nn;decide
      | some m=>exact h m (List.mem_of_getElem? hq)
 unfold zZ9
 dsimp only
 refine ⟨zs4 (zs4 (hrun _ _ _ _ _ (zs4 (zpa _) (by unfold nn;decide))) (by unfold nn;decide)) (zpa _),by simp⟩
def zTL (kd:Bool) (id cl:Int) (name key:List UInt8) (arg exp:Int):List Mem:=
 [(z3k,1,id,[]),(sBy,1,cl,[]),(sOp,3,0,name)]++(if kd then [(sKey,3,0,key)] else [])++(if name=[99,97,115] then [(sExp,1,exp,[]),(sArg,1,arg,[])] else if name=[119,114,105,116,101]∨name=[112,117,116]∨name=[101,110,113] then [(sArg,1,arg,[])] else [])
structure CallFacts (model:List UInt8) (ms:List Mem) (id cl:Int) (name key:List UInt8) (arg exp:Int):Prop where
 ok:za6 ms=true
 fits:z5q ms zAp=true
 find:∃ r,zco model name opTab=some r∧r.2.2.1=z8C ms
 id:zqd ms z3k=id
 by_:zqd ms sBy=cl
 op:zbh ms sOp=name
 key:zbh ms sKey=key
 arg:zqd ms sArg=arg
 exp:zqd ms sExp=exp
set_option maxHeartbeats 2000000 in
theorem zyb (i k:Nat) (hi:i < 5) (hk:k < opN i) (id cl:Int) (key:List UInt8) (arg exp:Int) (hkey:zSt i=false→key=[]) (harg:zuE (opS i k)=false→arg=0) (hexp:opS i k≠[99,97,115]→exp=0) (f:Nat) (hf:f < (zTL (zSt i) id cl (opS i k) key arg exp).length):
 CallFacts (modS i) ((zTL (zSt i) id cl (opS i k) key arg exp).drop f++(zTL (zSt i) id cl (opS i k) key arg exp).take f) id cl (opS i k) key arg exp:=by
 have hN:opN i≤3:=by unfold opN;split <;> omega
 have hf5:f < 5:=by
  have:(zTL (zSt i) id cl (opS i k) key arg exp).length≤5:=by
   obtain rfl | rfl | rfl | rfl | rfl:i=0∨i=1∨i=2∨i=3∨i=4:=by omega
   all_goals
    obtain rfl | rfl | rfl:k=0∨k=1∨k=2:=by omega
    all_goals exact of_decide_eq_true rfl
  omega
 obtain rfl | rfl | rfl | rfl | rfl:i=0∨i=1∨i=2∨i=3∨i=4:=by omega
 all_goals
  obtain rfl | rfl | rfl:k=0∨k=1∨k=2:=by omega
  all_goals
   first
   | (exact absurd hk (of_decide_eq_true rfl))
   | ((try obtain rfl:=hkey rfl);(try obtain rfl:=harg rfl);(try obtain rfl:=hexp (of_decide_eq_true rfl));(obtain rfl | rfl | rfl | rfl | rfl:f=0∨f=1∨f=2∨f=3∨f=4:=by omega);all_goals first | exact ⟨rfl,rfl,⟨_,rfl,rfl⟩,rfl,rfl,rfl,rfl,rfl,rfl⟩ | exact absurd hf (of_decide_eq_true rfl))
theorem zer (i k:Nat):∀ c∈nats (opS i k),32≤c∧c < 128∧c≠34∧c≠92:=by
 unfold opS;split <;> decide
theorem zI9 (i k:Nat):nn (opS i k):=by
 unfold opS nn;split <;> decide
theorem zSu (k p:Nat):nn (spS k p):=by
 unfold spS nn;split <;> decide
theorem zmp {ops:List OpV} {id:Int} (h:∀ o∈ops,o.id≠id):(z09 ops id).isSome=false:=by
 unfold z09
 rw [List.findIdx?_isSome,List.any_eq_false]
 intro o ho
 simpa using h o ho
theorem zn4 {ops:List OpV} {c:Int} (h:∀ o∈ops,o.cl=c→o.ret≠0):¬ openOf ops c > 0:=by
 unfold openOf
 rw [List.filter_eq_nil_iff.2 (fun o ho=>by simp;exact h o ho)]
 simp
theorem zJ0 (i k:Nat) (hi:i < 5) (hk:k < opN i) (id cl:Int) (kk:Nat) (hkk:kk < 3) (key:List UInt8) (arg exp:Int) (d:List Int) (h0: -1000000 < id) (h1:id < 1000000) (hc:small cl) (ha:small arg) (he:small exp)
 (hkey:key=if zSt i=true then keyS kk else []) (harg:zuE (opS i k)=false→arg=0) (hexp:opS i k≠[99,97,115]→exp=0) (ops:List OpV) (hid:∀ o∈ops,o.id≠id) (hfr:∀ o∈ops,o.cl=cl→o.ret≠0) (line:Int):
 addP (modS i) ops ⟨(zdF (zSt i) id cl (opS i k) arg exp kk d).1.toArray⟩ line=(0,some (ops++[⟨id,cl,opS i k,key,arg,exp,line,0,0,0⟩]))∧nn (zdF (zSt i) id cl (opS i k) arg exp kk d).1∧(zdF (zSt i) id cl (opS i k) arg exp kk d).1≠[]:=by
 obtain ⟨c1,c2⟩:=hc
 obtain ⟨a1,a2⟩:=ha
 obtain ⟨x1,x2⟩:=he
 have hML:MembL ([mCall (blankP d).1 id,mBy cl,mOp (opS i k)]++(if zSt i=true then [mKey (zPM kk (blankP d).2).1] else [])++(if opS i k=[99,97,115] then [mExp exp,mArg arg] else if opS i k=[119,114,105,116,101]∨opS i k=[112,117,116]∨opS i k=[101,110,113] then [mArg arg] else [])) (zTL (zSt i) id cl (opS i k) key arg exp):=by
  refine MembL.app (MembL.app ⟨Memb.num (nm:=z3k) (by decide) h0 h1 d,Memb.num0 (nm:=sBy) (by decide) (by omega) (by omega),?_,trivial⟩ ?_) ?_
  · have h:=Memb.val0 (nm:=sOp) (v:=[34]++opS i k++[34]) (by decide) ((Ok.ascii (a:=[34]) (by decide)).app (Ok.ascii (fun c hc=>(zer i k c.toNat (List.mem_map.2 ⟨c,hc,rfl⟩)).2.1)) |>.app (Ok.ascii (a:=[34]) (by decide))) (Val.text (fun rest f hf=>zBc (opS i k) (zer i k) rest f [] hf))
    unfold mOp
    have e:[34,111,112,34,58,34]++opS i k++[34]=[34]++sOp++[34]++[58]++([34]++opS i k++[34]):=by simp [sOp]
    rw [e];exact h
  · by_cases hq:zSt i=true
    · rw [if_pos hq,if_pos hq]
      rw [if_pos hq] at hkey
      subst hkey
      refine ⟨?_,trivial⟩
      have h:=Memb.val0 (nm:=sKey) (v:=[34]++(zPM kk (blankP d).2).1++[34]) (by decide) (((Ok.ascii (a:=[34]) (by decide)).app (Ok.sp kk _ hkk)).app (Ok.ascii (a:=[34]) (by decide))) (Val.text (fun rest f hf=>zqO kk _ hkk rest f hf))
      unfold mKey
      have e:[34,107,101,121,34,58,34]++(zPM kk (blankP d).2).1++[34]=[34]++sKey++[34]++[58]++([34]++(zPM kk (blankP d).2).1++[34]):=by simp [sKey]
      rw [e];exact h
    · rw [if_neg hq,if_neg hq];trivial
  · split
    · exact ⟨Memb.num0 (nm:=sExp) (by decide) (by omega) (by omega),Memb.num0 (nm:=sArg) (by decide) (by omega) (by omega),trivial⟩
    · split
      · exact ⟨Memb.num0 (nm:=sArg) (by decide) (by omega) (by omega),trivial⟩
      · trivial
 have hnn:∀ m∈[mCall (blankP d).1 id,mBy cl,mOp (opS i k)]++(if zSt i=true then [mKey (zPM kk (blankP d).2).1] else [])++(if opS i k=[99,97,115] then [mExp exp,mArg arg] else if opS i k=[119,114,105,116,101]∨opS i k=[112,117,116]∨opS i k=[101,110,113] then [mArg arg] else []),nn m:=by
  have k1:nn (mCall (blankP d).1 id):=zs4 (zs4 (zs4 (zs4 (by unfold nn;decide) (zpa _)) (by unfold nn;decide)) (zpa _)) (zuR _ h0 h1)
  have k2:nn (mBy cl):=zs4 (by unfold nn;decide) (zuR _ (by omega) (by omega))
  have k3:nn (mOp (opS i k)):=zs4 (zs4 (by unfold nn;decide) (zI9 i k)) (by unfold nn;decide)
  have k4:nn (mKey (zPM kk (blankP d).2).1):=zs4 (zs4 (by unfold nn;decide) (zSu _ _)) (by unfold nn;decide)
  have k5:nn (mExp exp):=zs4 (by unfold nn;decide) (zuR _ (by omega) (by omega))
  have k6:nn (mArg arg):=zs4 (by unfold nn;decide) (zuR _ (by omega) (by omega))
  intro m hm
  rcases List.mem_append.1 hm with hm | hm
  · rcases List.mem_append.1 hm with hm | hm
    · simp only [List.mem_cons,List.not_mem_nil,or_false] at hm
      rcases hm with rfl | rfl | rfl <;> assumption
    · split at hm
      · simp only [List.mem_cons,List.not_mem_nil,or_false] at hm;subst hm;exact k4
      · cases hm
  · split at hm
    · simp only [List.mem_cons,List.not_mem_nil,or_false] at hm
      rcases hm with rfl | rfl <;> assumption
    · split at hm
      · simp only [List.mem_cons,List.not_mem_nil,or_false] at hm;subst hm;exact k6
      · cases hm
 unfold zdF
 dsimp only
 generalize ([mCall (blankP d).1 id,mBy cl,mOp (opS i k)]++(if zSt i=true then [mKey (zPM kk (blankP d).2).1] else [])++(if opS i k=[99,97,115] then [mExp exp,mArg arg] else if opS i k=[119,114,105,116,101]∨opS i k=[112,117,116]∨opS i k=[101,110,113] then [mArg arg] else []))=ms at*
 generalize (if zSt i=true then (zPM kk (blankP d).2).2 else (blankP d).2)=d1
 refine ⟨?_,zgG ms hnn d1⟩
 obtain ⟨hlen,hget⟩:=hML.get
 have hpos:0 < ms.length:=by rw [←hlen];unfold zTL;simp
 unfold addP
 rw [zf2 ms _ d1 hlen hpos hget]
 have hf:=zKB hpos d1
 have hF:=zyb i k hi hk id cl key arg exp (fun h=>by rw [hkey,if_neg (by rw [h];simp)]) harg hexp (z1S ms.length d1).1 (by rw [hlen];exact hf)
 rw [←zNu _ _ (by rw [hlen];exact hf),hlen] at hF
 generalize rotM (zTL (zSt i) id cl (opS i k) key arg exp) (z1S ms.length d1).1 ms.length 0=R at*
 dsimp only
 rw [if_pos hF.ok,if_pos hF.fits]
 obtain ⟨r,hr1,hr2⟩:=hF.find
 have hcall:zRl (modS i) ops R line=(0,some ⟨id,cl,opS i k,key,arg,exp,line,0,0,0⟩):=by
  unfold zRl
  rw [hF.id,hF.by_,hF.op,hF.key,hF.arg,hF.exp]
  dsimp only
  rw [hr1]
  dsimp only
  rw [if_pos hr2,zmp hid,if_neg (by simp),if_neg (zn4 hfr)]
 rw [hcall]
 rfl
def intW (k n:Int):Prop:=k=1∧ -1000000 < n∧n < 1000000
def zXm (i k:Nat) (kk nn:Int):Prop:=match i,k with
 | 0,0=>intW kk nn | 0,1=>zf6 kk nn | 0,_=>zKe kk nn
 | 1,0=>intW kk nn∨zf6 kk nn | 1,1=>zf6 kk nn | 1,_=>zKe kk nn
 | 2,0=>zf6 kk nn | 2,_=>intW kk nn∨zf6 kk nn
 | _,_=>zKe kk nn
theorem zi2 {k n:Int} (h:zio k n):intW k n:=⟨h.1,by have:=h.2.1;omega,by have:=h.2.2;omega⟩
theorem z9q {i k:Nat} {kk nn:Int} (h:zxk i k kk nn):zXm i k kk nn:=by
 match i,k,h with
 | 0,0,h=>exact zi2 h
 | 0,1,h=>exact h
 | 0,(_+2),h=>exact h
 | 1,0,h=>exact Or.imp zi2 id h
 | 1,1,h=>exact h
 | 1,(_+2),h=>exact h
 | 2,0,h=>exact h
 | 2,(_+1),h=>exact Or.imp zi2 id h
 | (_+3),0,h=>exact h
 | (_+3),(_+1),h=>exact h
theorem z3e {i k:Nat} {vk vn:Int} (h:zXm i k vk vn):zWP vk vn:=by
 have hI:intW vk vn→zWP vk vn:=fun h=>Or.inr (Or.inl ⟨h.1,h.2.1,h.2.2⟩)
 have hN:zf6 vk vn→zWP vk vn:=by rintro ⟨rfl,rfl⟩;exact Or.inl ⟨rfl,rfl⟩
 have hB:zKe vk vn→zWP vk vn:=by rintro ⟨rfl,hh⟩;exact Or.inr (Or.inr ⟨rfl,hh⟩)
 unfold zXm at h
 split at h
 all_goals first | exact hI h | exact hN h | exact hB h | exact h.elim hI hN
theorem zQh (i k:Nat) (hi:i < 5) (hk:k < opN i) (vk vn:Int) (h:zXm i k vk vn):zHy (((zco (modS i) (opS i k) opTab).map (fun r=>r.2.2.2)).getD 0) vk=true:=by
 have hI:intW vk vn→vk=1:=fun h=>h.1
 have hN:zf6 vk vn→vk=0:=fun h=>h.1
 have hB:zKe vk vn→vk=2:=fun h=>h.1
 match i,k,hi,hk,h with
 | 0,0,_,_,h=>rw [hI h];decide
 | 0,1,_,_,h=>rw [hN h];decide
 | 0,2,_,_,h=>rw [hB h];decide
 | 1,0,_,_,Or.inl h=>rw [hI h];decide
 | 1,0,_,_,Or.inr h=>rw [hN h];decide
 | 1,1,_,_,h=>rw [hN h];decide
 | 1,2,_,_,h=>rw [hB h];decide
 | 2,0,_,_,h=>rw [hN h];decide
 | 2,1,_,_,Or.inl h=>rw [hI h];decide
 | 2,1,_,_,Or.inr h=>rw [hN h];decide
 | 3,0,_,_,h=>rw [hB h];decide
 | 3,1,_,_,h=>rw [hB h];decide
 | 3,2,_,_,h=>rw [hB h];decide
 | 4,0,_,_,h=>rw [hB h];decide
 | 4,1,_,_,h=>rw [hB h];decide
theorem zpu (vk vn:Int) (h:zWP vk vn):nn (zTS vk vn):=by
 unfold zTS
 rcases h with ⟨rfl,rfl⟩ | ⟨rfl,h0,h1⟩ | ⟨rfl,rfl | rfl⟩
 · unfold nn;decide
 · rw [if_pos rfl];exact zuR vn h0 h1
 · unfold nn;decide
 · unfold nn;decide
theorem zhl {k n:Int} (h:zWP k n):Memb (mVal k n) (sVal,k,n,[]):=by
 unfold mVal zTS
 rcases h with ⟨rfl,rfl⟩ | ⟨rfl,h0,h1⟩ | ⟨rfl,rfl | rfl⟩
 · exact Memb.val0 (nm:=sVal) (v:=[110,117,108,108]) (rv:=[110,117,108,108]) (by decide) (Ok.ascii (by decide)) (fun R _=>⟨rfl,rfl⟩)
 · rw [if_pos rfl];exact Memb.num0 (nm:=sVal) (by decide) h0 h1
 · exact Memb.val0 (nm:=sVal) (v:=[102,97,108,115,101]) (rv:=[102,97,108,115,101]) (by decide) (Ok.ascii (by decide)) (fun R _=>⟨rfl,rfl⟩)
 · exact Memb.val0 (nm:=sVal) (v:=[116,114,117,101]) (rv:=[116,114,117,101]) (by decide) (Ok.ascii (by decide)) (fun R _=>⟨rfl,rfl⟩)
theorem zLx (id vk vn:Int) (h:zWP vk vn) (f:Nat) (hf:f < 2):let ms:List Mem:=[(sRet,1,id,[]),(sVal,vk,vn,[])].drop f++[(sRet,1,id,[]),(sVal,vk,vn,[])].take f
 za6 ms=true∧z5q ms zAp=false∧z5q ms zOn=true∧zqd ms sRet=id∧zoz ms sVal=vk∧zqd ms sVal=vn:=by
 rcases h with ⟨rfl,rfl⟩ | ⟨rfl,_,_⟩ | ⟨rfl,rfl | rfl⟩ <;> (obtain rfl | rfl:f=0∨f=1:=by omega) <;> exact ⟨rfl,rfl,rfl,rfl,rfl,rfl⟩
theorem z3n (i k:Nat) (hi:i < 5) (hk:k < opN i) (vk vn:Int) (hv:zXm i k vk vn) (d:List Int) (ops:List OpV) (hu:uniq ops) (j:Nat) (o:OpV) (hj:ops[j]?=some o) (hr:o.ret=0) (hn:o.name=opS i k) (h0: -1000000 < o.id) (h1:o.id < 1000000) (line:Int):
 addP (modS i) ops ⟨(zZ7 o.id vk vn d).1.toArray⟩ line=(0,some (ops.set j { o with vk:=vk,vn:=vn,ret:=line }))∧nn (zZ7 o.id vk vn d).1∧(zZ7 o.id vk vn d).1≠[]:=by
 have hok:=z3e hv
 unfold zZ7
 refine ⟨?_,zgG _ (fun m hm=>?_) d⟩
 · have hML:MembL [mRet o.id,mVal vk vn] [(sRet,1,o.id,[]),(sVal,vk,vn,[])]:=⟨Memb.num0 (nm:=sRet) (by decide) h0 h1,zhl hok,trivial⟩
   unfold addP
   rw [zf2 _ _ d rfl (by simp) hML.get.2]
   have hf:=zKB (show 0 < 2 by omega) d
   have hF:=zLx o.id vk vn hok (z1S 2 d).1 hf
   have e2:[mRet o.id,mVal vk vn].length=2:=rfl
   rw [e2]
   have e3:=zNu [(sRet,1,o.id,[]),(sVal,vk,vn,[])] (z1S 2 d).1 hf
   rw [show ([(sRet,1,o.id,[]),(sVal,vk,vn,[])]:List Mem).length=2 from rfl] at e3
   rw [e3]
   dsimp only at hF ⊢
   generalize ([(sRet,1,o.id,[]),(sVal,vk,vn,[])]:List Mem).drop (z1S 2 d).1++([(sRet,1,o.id,[]),(sVal,vk,vn,[])]:List Mem).take (z1S 2 d).1=R at hF ⊢
   obtain ⟨f1,f2,f3,f4,f5,f6⟩:=hF
   rw [if_pos f1,if_neg (by rw [f2];simp),if_pos f3]
   have hfi:z09 ops o.id=some j:=by
    unfold z09
    rw [List.findIdx?_eq_some_iff_getElem]
    obtain ⟨hjl,hje⟩:=List.getElem?_eq_some_iff.1 hj
    refine ⟨hjl,by rw [hje];simp,fun j' hj'=>?_⟩
    have hne:(ops[j']'(by omega)).id≠o.id:=by
     intro e
     have hp:=List.pairwise_iff_getElem.1 hu j' j (by simp;omega) (by simpa using hjl) hj'
     apply hp
     rw [List.getElem_map,List.getElem_map,hje];exact e
    simpa using hne
   unfold retP
   rw [f4,hfi]
   dsimp only
   rw [hj]
   dsimp only
   have hg:=zQh i k hi hk vk vn hv
   rw [←hn] at hg
   rw [if_neg (by rw [hr];simp),f5,f6,if_pos hg]
   rfl
 · simp only [List.mem_cons,List.not_mem_nil,or_false] at hm
   rcases hm with rfl | rfl
   · exact zs4 (by unfold nn;decide) (zuR _ h0 h1)
   · exact zs4 (by unfold nn;decide) (zpu vk vn hok)
def rd (model:List UInt8):List (List UInt8)→Nat→List OpV→Option (List OpV)
 | [],_,ops=>some ops
 | l::ls,k,ops=>match addP model ops ⟨l.toArray⟩ ((k:Int)+1) with
   | (_,none)=>none
   | (_,some o')=>rd model ls (k+1) o'
theorem zlq (model:List UInt8) (a b:List (List UInt8)):∀ (k:Nat) (ops:List OpV),rd model (a++b) k ops=(rd model a k ops).bind (rd model b (k+a.length)):=by
 induction a with
 | nil=>intro k ops;rfl
 | cons l t ih=>
   intro k ops
   rw [List.cons_append,rd,rd]
   split
   · rfl
   · rw [ih,show k+(l::t).length=k+1+t.length by simp;omega]
theorem zJH (l rest:List UInt8) (h:nn l):Lib.cut (l++10::rest) [10]=(l,rest,true):=by
 induction l with
 | nil=>rw [List.nil_append,z2n,if_pos rfl]
 | cons c t ih=>rw [List.cons_append,z2n,if_neg (h c (by simp)),ih (fun x hx=>h x (by simp [hx]))]
theorem zHY (model:List UInt8) (ls:List (List UInt8)):∀ (f k:Nat) (ops ops':List OpV),(∀ l∈ls,nn l∧l≠[])→ls.length < f→rd model ls k ops=some ops'→zIn model f ops (zhe ls) k=.inl ops':=by
 induction ls with
 | nil=>
   intro f k ops ops' _ hf h
   injection h with h
   subst h
   match f,hf with
   | f+1,_=>rw [zIn];exact if_pos rfl
 | cons l t ih=>
   intro f k ops ops' hl hf h
   match f,hf with
   | f+1,hf=>
     have e:zhe (l::t)=l++10::zhe t:=by simp [zhe]
     rw [rd] at h
     rw [zIn,e,zJH l _ (hl l (by simp)).1,if_neg (by simp),if_neg (by simp at hf;omega)]
     dsimp only
     revert h
     cases addP model ops ⟨l.toArray⟩ ((k:Int)+1) with
     | mk r o=>
       cases o with
       | none=>intro h;cases h
       | some o'=>intro h;exact ih f (k+1) o' ops' (fun x hx=>hl x (by simp [hx])) (by simp at hf;omega) h
theorem zmn (ms:List (List UInt8)) (L:Nat) (h:∀ m∈ms,m.length≤L) (f:Nat):∀ (n i:Nat) (s:List UInt8) (d:List Int),(zYs ms f n i s d).1.length≤s.length+n*(L+5):=by
 intro n
 induction n with
 | zero=>intro i s d;simp [zYs]
 | succ n ih=>
   intro i s d
   rw [zYs]
   refine Nat.le_trans (ih _ _ _) ?_
   have hm:(ms.getD ((f+i) % ms.length) []).length≤L:=by
    rw [List.getD]
    cases hq:ms[(f+i) % ms.length]? with
    | none=>simp
    | some m=>exact h m (List.mem_of_getElem? hq)
   have b1:=za4 d
   have b2:=za4 (blankP d).2
   have hs:(if i=0 then s else s++[44]).length≤s.length+1:=by split <;> simp
   rw [List.length_append,List.length_append,List.length_append,Nat.succ_mul]
   omega
theorem ztx (ms:List (List UInt8)) (d:List Int) (h:∀ m∈ms,m.length≤50) (hn:ms.length≤6):(zZ9 ms d).1.length≤1000:=by
 unfold zZ9
 dsimp only
 have h1:=zmn ms 50 h (z1S ms.length d).1 ms.length 0 ((blankP (z1S ms.length d).2).1++[123]) (blankP (z1S ms.length d).2).2
 have b1:=za4 (z1S ms.length d).2
 have b2:=za4 (zYs ms (z1S ms.length d).1 ms.length 0 ((blankP (z1S ms.length d).2).1++[123]) (blankP (z1S ms.length d).2).2).2
 rw [List.length_append] at h1
 rw [List.length_append,List.length_append]
 simp only [List.length_cons,List.length_nil] at*
 omega
theorem zxL (kd:Bool) (id cl:Int) (i k:Nat) (arg exp:Int) (kk:Nat) (d:List Int) (h0: -1000000 < id) (h1:id < 1000000) (hc:small cl) (ha:small arg) (he:small exp):(zdF kd id cl (opS i k) arg exp kk d).1.length≤1000:=by
 obtain ⟨c1,c2⟩:=hc
 obtain ⟨a1,a2⟩:=ha
 obtain ⟨x1,x2⟩:=he
 have l1:=zkB id h0 h1
 have l2:=zkB cl (by omega) (by omega)
 have l3:=zkB arg (by omega) (by omega)
 have l4:=zkB exp (by omega) (by omega)
 have l5:=za4 d
 have l6:=z1j i k
 have l7:(zPM kk (blankP d).2).1.length≤18:=z3D _ _
 unfold zdF
 dsimp only
 refine ztx _ _ (fun m hm=>?_) ?_
 · rcases List.mem_append.1 hm with hm | hm
   · rcases List.mem_append.1 hm with hm | hm
     · simp only [List.mem_cons,List.not_mem_nil,or_false] at hm
       rcases hm with rfl | rfl | rfl
       · simp [mCall];omega
       · simp [mBy];omega
       · simp [mOp];omega
     · split at hm
       · simp only [List.mem_cons,List.not_mem_nil,or_false] at hm;subst hm;simp [mKey];omega
       · cases hm
   · split at hm
     · simp only [List.mem_cons,List.not_mem_nil,or_false] at hm
       rcases hm with rfl | rfl
       · simp [mExp];omega
       · simp [mArg];omega
     · split at hm
       · simp only [List.mem_cons,List.not_mem_nil,or_false] at hm;subst hm;simp [mArg];omega
       · cases hm
 · rw [List.length_append,List.length_append]
   have k1:(if kd=true then [mKey (zPM kk (blankP d).2).1] else []).length≤1:=by split <;> simp
   have k2:(if opS i k=[99,97,115] then [mExp exp,mArg arg] else if opS i k=[119,114,105,116,101]∨opS i k=[112,117,116]∨opS i k=[101,110,113] then [mArg arg] else []).length≤2:=by
    split
    · simp
    · split <;> simp
   simp only [List.length_cons,List.length_nil]
   omega
theorem zZa (id vk vn:Int) (d:List Int) (h0: -1000000 < id) (h1:id < 1000000) (hv:zWP vk vn):(zZ7 id vk vn d).1.length≤1000:=by
 have l1:=zkB id h0 h1
 have l2:=zfoB vk vn hv
 refine ztx _ _ (fun m hm=>?_) (by simp)
 simp only [List.mem_cons,List.not_mem_nil,or_false] at hm
 rcases hm with rfl | rfl
 · simp [mRet];omega
 · simp [mVal];omega
theorem zvL (ls:List (List UInt8)) (h:∀ l∈ls,l.length≤1000):(zhe ls).length≤1001*ls.length:=by
 induction ls with
 | nil=>simp [zhe]
 | cons l r ih=>
   have e:zhe (l::r)=l++[10]++zhe r:=by simp [zhe]
   have h1:=h l (by simp)
   have h2:=ih (fun l hl=>h l (by simp [hl]))
   rw [e,List.length_append,List.length_append,List.length_cons]
   simp only [List.length_cons,List.length_nil]
   omega
theorem zVUv {w:World} {base:Nat} {oa:Option Addr} {cap:Nat} {ls:List (List UInt8)} (h:w.ownsRow base 9 1 (.slice oa ls.length cap) ls.length (strCells ls)) (hne:ls≠[]):∃ g,oa=some ⟨g,0,none⟩∧SRow w g ls:=by
 rcases zzD h with ⟨_,h0⟩ | ⟨g,c,h1,_,_,h4⟩
 · exact absurd (List.length_eq_zero_iff.1 h0) hne
 · injection h1 with ha _ hc
   subst ha
   refine ⟨g,rfl,h4,fun j x hj=>?_⟩
   have hjl:=(List.getElem?_eq_some_iff.1 hj).1
   subst hc
   rw [World.ownsRow.cellAt h j (by omega)]
   unfold strCells
   rw [List.getElem?_map,hj];rfl
end Go.Proofs.YtlkidmafomjhgaaGreatDoor.keep
