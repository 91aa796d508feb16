/- Several texts in one. -/
import Derived.Test.YtbbkihekjdffpaaGreatDoorJdPc
set_option maxHeartbeats 4000000
set_option maxRecDepth 100000
namespace Go.Proofs.YtbbkihekjdffpaaGreatDoor.jd
open Go.RowKit
open srch (vAg opAg tI OAt zOu idsT sRej zkp Pow zm7 zgh say zNr zAR)
def zNG (m t:List UInt8) (b:Int):Prop:=∀ ops v,z9w m t=.inl ops→zNr m ops (min b 1000000) v→Fit m ops b (say v)∧Known ops∧(∀ o∈ops,o.key=[])∧(say v).length≤9000000
theorem zG2 (t m:List UInt8) (hm:lone3 m) (b:Int) (hb:wf64 b) (hfit:zNG m t b) (w:World) (hg:Glob w) (hp:Pow w) (hmod:Mods w) (ht:t.length≤2000000):
 Calls Tryz.prog 4 #[.string ⟨t.toArray⟩,.string ⟨m.toArray⟩,.int .i64 b] w fun e w'=>Below w.heap.size w w'∧e=.returned (.bool true):=by
 have hng:=hg.errs.lt
 have hR:=zm7 t m b w hg hp ht hb (zgh m hm)
 have hkm:zOI m opTab=true:=by rcases hm with rfl | rfl | rfl <;> decide
 go_enter Tryz.func4,Tryz.ntmps4
 go_wp2_with fail
 refine hR.mono ?_
 rintro e w1 ⟨out,ho,rfl,hb1⟩
 have hA:Calls Tryz.prog 6 #[.string ⟨t.toArray⟩,.string ⟨m.toArray⟩,.int .i64 b,.string ⟨out.toArray⟩] w1 fun e w'=>e=.returned (.bool true)∧Below w1.heap.size w1 w':=by
  have hm1:=hmod.below (hb1.mono hng)
  have hz:10≤w1.heap.size:=Nat.le_trans hng hb1.size
  rcases ho with ⟨h,_⟩ | ⟨_,⟨l,r,h,hr0,rfl⟩ | ⟨ops,v,h,hj,rfl⟩⟩
  · rw [hkm] at h;cases h
  · have hrng:=zAR h
    rw [zxf hkm] at h
    exact zDu m t hm b l r h hr0 hrng w1 hm1 hz ht
  · obtain ⟨h1,h2,h3,h4⟩:=hfit ops v h hj
    rw [zxf hkm] at h
    exact zw5 m t hm b ops ⟨h,h2,h3⟩ (say v) h4 h1 w1 hm1 hz ht
 have HB1:Hid _:=hb1
 clear hR ho hb1
 go_wp2_with fail
 refine hA.mono ?_
 rintro e w2 ⟨rfl,hb2⟩
 have HB2:Hid (Below w.heap.size w w2):=HB1.out.trans (hb2.mono HB1.out.size)
 clear hA hb2
 go_wp2_with fail
 go_ret
 exact ⟨HB2.out,rfl⟩
theorem lone_walk (t:List UInt8) (which b:Int) (hb:wf64 b) (hfit:∀ m,lone3 m→zNG m t b) (w:World) (hg:Glob w) (hp:Pow w) (hmod:Mods w) (ht:t.length≤2000000):
 Calls Tryz.prog 3 #[.string ⟨t.toArray⟩,.int .i64 which,.int .i64 b] w fun e w'=>Below w.heap.size w w'∧e=.returned (.bool true):=by
 have hrun:=fun m hm=>zG2 t m hm b hb (hfit m hm) w hg hp hmod ht
 have h1:=hrun sReg (.inl rfl)
 have h2:=hrun zsK (.inr (.inl rfl))
 have h3:=hrun zyy (.inr (.inr rfl))
 simp only [sReg,zsK,zyy] at h1 h2 h3
 clear hrun
 by_cases c0:Int.tmod which 3=0
 · go_enter Tryz.func3,Tryz.ntmps3
   go_wp2_with fail
   refine h1.mono ?_
   rintro e w1 ⟨hb1,rfl⟩
   go_wp2_with fail
   go_ret
   exact ⟨hb1,rfl⟩
 · have c0':(Int.tmod which 3 == 0)=false:=by simpa using c0
   by_cases c1:Int.tmod which 3=1
   · go_enter Tryz.func3,Tryz.ntmps3
     go_wp2_with fail
     refine h2.mono ?_
     rintro e w1 ⟨hb1,rfl⟩
     go_wp2_with fail
     go_ret
     exact ⟨hb1,rfl⟩
   · have c1':(Int.tmod which 3 == 1)=false:=by simpa using c1
     go_enter Tryz.func3,Tryz.ntmps3
     go_wp2_with fail
     refine h3.mono ?_
     rintro e w1 ⟨hb1,rfl⟩
     go_wp2_with fail
     go_ret
     exact ⟨hb1,rfl⟩
end Go.Proofs.YtbbkihekjdffpaaGreatDoor.jd
namespace Go.Proofs.YtbbkihekjdffpaaGreatDoor.jd
open Go.RowKit
open srch (Legal LinP ordO Judged say idsT Rd zAl zAR zNr okOp z7a zFH zCI lkDo quDo decP wfI)
def okN (m:List UInt8) (o:OpV):Prop:=(∃ r∈opTab,r.1=m∧r.2.1=o.name)∧wf64 o.exp∧(lone3 m→o.key=[])
theorem zrh {m n:List UInt8} {ms:List Mem} {r:zqk} (hf:zco m n opTab=some r) (hh:r.2.2.1=z8C ms) (hm:lone3 m):zbh ms sKey=[]:=by
 unfold zco at hf
 have h1:=List.mem_of_find?_eq_some hf
 have h2:=List.find?_some hf
 simp only [Bool.and_eq_true,beq_iff_eq] at h2
 have hb:r.2.2.1=0∨r.2.2.1=2∨r.2.2.1=6:=by
  have h3:=h2.1
  simp only [opTab,List.mem_cons,List.not_mem_nil,or_false] at h1
  rcases hm with rfl | rfl | rfl <;> rcases h1 with rfl | rfl | rfl | rfl | rfl | rfl | rfl | rfl | rfl | rfl | rfl | rfl | rfl <;> first | (exact absurd h3 (by decide)) | simp
 unfold zbh
 cases hk:z8R ms sKey with
 | none=>rfl
 | some x=>
   unfold z8C at hh
   rw [hk] at hh
   simp only [Option.isSome_some,if_true] at hh
   split at hh <;> split at hh <;> omega
theorem zfE {model:List UInt8} {ops ops':List OpV} {s:ByteArray} {line r:Int} (ho:∀ o∈ops,okN model o) (h:addP model ops s line=(r,some ops')):(∀ o∈ops',okN model o)∧ops'.length≤ops.length+1:=by
 unfold addP at h
 split at h
 · injection h with _ h;cases h
 · rename_i ms hm
   have hg:=zau hm
   split at h
   · split at h
     · injection h with _ h
       unfold zRl at h
       dsimp only at h
       split at h
       · cases h
       · rename_i row hrow
         split at h
         · rename_i hhav
           split at h
           · cases h
           · split at h
             · cases h
             · simp at h
               subst h
               refine ⟨fun o hx=>?_,by simp⟩
               rcases List.mem_append.1 hx with hx | hx
               · exact ho o hx
               · rw [List.mem_singleton] at hx
                 subst hx
                 refine ⟨⟨row,List.mem_of_find?_eq_some hrow,?_⟩,zFH hg _,zrh hrow hhav⟩
                 have:=List.find?_some hrow
                 simpa using this
         · cases h
     · split at h
       · unfold retP at h
         split at h
         · injection h with _ h;cases h
         · split at h
           · injection h with _ h;cases h
           · rename_i i _ o he
             split at h
             · injection h with _ h;cases h
             · split at h
               · injection h with _ h
                 injection h with h
                 subst h
                 refine ⟨fun x hx=>?_,by simp⟩
                 rcases List.mem_or_eq_of_mem_set hx with hx | hx
                 · exact ho x hx
                 · subst hx
                   exact ho o (List.mem_of_getElem? he)
               · injection h with _ h;cases h
       · injection h with _ h;cases h
   · injection h with _ h;cases h
theorem zIY (model:List UInt8):∀ (f:Nat) (ops:List OpV) (t:List UInt8) (k:Nat) (res:List OpV),(∀ o∈ops,okN model o)→ops.length+f≤129→zIn model f ops t k=.inl res→(∀ o∈res,okN model o)∧res.length≤128:=by
 intro f
 induction f with
 | zero=>intro ops t k res _ _ h;simp [zIn] at h
 | succ f ih=>
   intro ops t k res ho hl h
   unfold zIn at h
   split at h
   · injection h with h;subst h;exact ⟨ho,by omega⟩
   · split at h
     · cases h
     · split at h
       · cases h
       · rename_i r ops' he
         obtain ⟨h1,h2⟩:=zfE ho he
         exact ih ops' _ _ res h1 (by omega) h
theorem zpY {model t:List UInt8} {ops:List OpV} (h:z9w model t=.inl ops):(∀ o∈ops,okN model o)∧ops.length≤128:=zIY model 129 [] t 0 ops (by simp) (by simp) h
theorem okN.names {m:List UInt8} {o:OpV} (h:okN m o):names o.name:=by
 obtain ⟨⟨r,hr,_,h2⟩,_⟩:=h
 rw [←h2]
 unfold jd.names
 simp only [opTab,List.mem_cons,List.not_mem_nil,or_false] at hr
 rcases hr with rfl | rfl | rfl | rfl | rfl | rfl | rfl | rfl | rfl | rfl | rfl | rfl | rfl <;> simp [zxX,zus,nCas,nGet,nPut,nDel,nEnq,nDeq,nAdd,nRem,nHas,nAcq,nRel]
theorem zH8 {a b:Int} (ha:wf64 a) (hb:wf64 b) (h:Lib.itoa a=Lib.itoa b):a=b:=by
 have h1:=zmn a ha.1 ha.2
 rw [h,zmn b hb.1 hb.2] at h1
 injection h1 with h1
 exact h1.symm
theorem zGn {a:Int} (ha:wf64 a):Lib.itoa a≠[45]:=fun h=>by
 have h1:=zmn a ha.1 ha.2
 rw [h] at h1
 have h2:(z7y [45]).2=true:=by rw [h1]
 exact absurd h2 (by decide)
theorem z2w {a:Int} (ha:wf64 a):Lib.itoa a≠[]:=fun h=>by
 have h1:=zmn a ha.1 ha.2
 rw [h] at h1
 have h2:(z7y []).2=true:=by rw [h1]
 exact absurd h2 (by decide)
theorem zl2 {a:Int} (ha:wf64 a):numV (Lib.itoa a)=(1,a):=by
 unfold numV
 rw [zmn a ha.1 ha.2];rfl
theorem zMA:Lib.itoa 0=[48]:=by
 unfold Lib.itoa
 rw [if_neg (by omega),zDc];rfl
theorem wf_zero:wf64 0:=⟨by decide,by decide⟩
theorem zpg (m:Nat):allD (nats (Lib.decDigits m)):=by
 induction m using Nat.strongRecOn with
 | ind m ih=>
   rw [zDc]
   by_cases h:m < 10
   · rw [if_pos h,zNL m h]
     intro c hc
     simp at hc
     omega
   · rw [if_neg h,zfI,zNL _ (Nat.mod_lt _ (by omega))]
     intro c hc
     rcases List.mem_append.1 hc with hc | hc
     · exact ih (m / 10) (by omega) c hc
     · simp at hc;omega
theorem z1U (m:Nat):zqj (nats (Lib.decDigits m)):=by
 refine ⟨zpg m,fun h=>(zot m).2.1 (fun e=>?_)⟩
 subst e
 rw [zDc,if_pos (by omega)] at h
 simp [nats] at h
theorem z15 {a:Int} (ha:wf64 a):decP (Lib.itoa a)=some a:=by
 have hx:=zmn a ha.1 ha.2
 unfold z7y at hx
 injection hx with h1 h2
 rw [Bool.and_eq_true] at h2
 have hw:zyu (nats (Lib.itoa a))=(a,true):=Prod.ext h1 h2.1
 have hsg:nats (Lib.itoa a)=sgnd (decide (a < 0)) (nats (Lib.decDigits a.natAbs)):=by
  unfold Lib.itoa sgnd
  by_cases hn:a < 0
  · rw [if_pos hn,decide_eq_true hn,if_pos rfl];rfl
  · rw [if_neg hn,decide_eq_false hn,if_neg (by simp),show a.toNat=a.natAbs by omega]
 have hp:Lib.parseIntB 64 (Lib.itoa a)=.ok a:=by
  rcases z8f (decide (a < 0)) (z1U a.natAbs) with ⟨v,h3,h4⟩ | ⟨_,h3⟩
  · rw [←hsg,zWB] at h3
    rw [←hsg,hw] at h4
    injection h4 with h4
    rw [h3,h4]
  · rw [←hsg,hw] at h3
    cases h3
 rw [srch.decP_ok hp,if_pos rfl]
end Go.Proofs.YtbbkihekjdffpaaGreatDoor.jd
namespace Go.Proofs.YtbbkihekjdffpaaGreatDoor.jd
open Go.RowKit
open srch (Legal LinP ordO Judged say idsT Rd zAl zNr okOp z7a zCI lkDo quDo decP wfI)
theorem zWu {m:List UInt8} {o:OpV} (h:okN m o):(m=sReg→o.name=zxX∨o.name=zus∨o.name=nCas)∧(m=zsK→o.name=nEnq∨o.name=nDeq)∧(m=zyy→o.name=nAcq∨o.name=nRel):=by
 obtain ⟨⟨r,hr,h1,h2⟩,_⟩:=h
 rw [←h2]
 simp only [opTab,List.mem_cons,List.not_mem_nil,or_false] at hr
 refine ⟨fun e=>?_,fun e=>?_,fun e=>?_⟩
 all_goals
  subst e
  rcases hr with rfl | rfl | rfl | rfl | rfl | rfl | rfl | rfl | rfl | rfl | rfl | rfl | rfl <;> first | (exact absurd h1 (by decide)) | simp [zxX,zus,nCas,nEnq,nDeq,nAcq,nRel]
structure OkM (m:List UInt8) (o:OpV):Prop where
 nm:okN m o
 arg:wf64 o.arg
 cl:wf64 o.cl
theorem z28 (ops:List OpV) (h:∀ o∈ops,OkM sReg o):Sim zCI 0 Lib.itoa wf64 sReg ops where
 good0:=wf_zero
 first:=by rw [zMA];decide
 inj:=fun s s' h1 h2 e=>zH8 h1 h2 e
 step:=by
  intro s o hs ho
  obtain ⟨hn,ha,_⟩:=h o ho
  have hx:=hn.2.1
  rcases (zWu hn).1 rfl with e | e | e
  · simp [zCI,ztI,e,zxX,zl2 hs,hs]
  · simp [zCI,ztI,e,zxX,nGet,zus,ha]
  · have hc:(Lib.itoa s=Lib.itoa o.exp)↔s=o.exp:=⟨zH8 hs hx,fun e=>by rw [e]⟩
    by_cases c:s=o.exp
    · simp [zCI,ztI,e,zxX,nGet,zus,nPut,nCas,c,ha]
    · simp [zCI,ztI,e,zxX,nGet,zus,nPut,nCas,c,hc,hs]
def lkT (s:Bool×Int):List UInt8:=if s.1=true then Lib.itoa s.2 else [45]
def lkG (s:Bool×Int):Prop:=wf64 s.2∧(s.1=false→s.2=0)
theorem zFR (ops:List OpV) (h:∀ o∈ops,OkM zyy o):Sim lkDo (false,0) lkT lkG zyy ops where
 good0:=⟨wf_zero,fun _=>rfl⟩
 first:=by decide
 inj:=by
  rintro ⟨b,x⟩ ⟨b',y⟩ ⟨h1,h1'⟩ ⟨h2,h2'⟩ e
  unfold lkT at e
  cases b <;> cases b' <;> simp at e h1 h2 h1' h2' ⊢
  · rw [h1',h2']
  · exact absurd e.symm (zGn h2)
  · exact absurd e (zGn h1)
  · exact zH8 h1 h2 e
 step:=by
  rintro ⟨b,x⟩ o ⟨hs,hz⟩ ho
  obtain ⟨hn,_,hc⟩:=h o ho
  simp only at hs hz
  rcases (zWu hn).2.2 rfl with e | e
  · cases b
    · have:=hz rfl
      simp [lkDo,ztI,e,zxX,nGet,zus,nPut,nCas,nDel,nEnq,nDeq,nAdd,nRem,nHas,nAcq,lkT,lkG,hc]
    · simp [lkDo,ztI,e,zxX,nGet,zus,nPut,nCas,nDel,nEnq,nDeq,nAdd,nRem,nHas,nAcq,lkT,lkG,hs,zGn hs]
  · cases b
    · have hb:([45]:List UInt8)≠Lib.itoa o.cl:=fun e=>zGn hc e.symm
      have:=hz rfl
      simp [lkDo,ztI,e,zxX,nGet,zus,nPut,nCas,nDel,nEnq,nDeq,nAdd,nRem,nHas,nAcq,nRel,lkT,lkG,this,wf_zero]
      simpa using hb
    · have hq:(Lib.itoa x=Lib.itoa o.cl)↔x=o.cl:=⟨zH8 hs hc,fun e=>by rw [e]⟩
      by_cases c:x=o.cl
      · simp [lkDo,ztI,e,zxX,nGet,zus,nPut,nCas,nDel,nEnq,nDeq,nAdd,nRem,nHas,nAcq,nRel,lkT,lkG,c,wf_zero]
      · simp [lkDo,ztI,e,zxX,nGet,zus,nPut,nCas,nDel,nEnq,nDeq,nAdd,nRem,nHas,nAcq,nRel,lkT,lkG,c,hq,hs]
theorem zWw (b:UInt8) (l:List UInt8):Lib.index (b::l) [44]=if b=44 then 0 else if Lib.index l [44]= -1 then -1 else Lib.index l [44]+1:=by
 rw [Lib.index]
 by_cases hb:b=44
 · subst hb;simp [List.isPrefixOf]
 · have:([44]:List UInt8).isPrefixOf (b::l)=false:=by
    simp only [List.isPrefixOf,Bool.and_true]
    rw [beq_eq_false_iff_ne]
    exact fun e=>hb e.symm
   rw [this,if_neg hb]
   simp only [Bool.false_eq_true,if_false,beq_iff_eq]
theorem z3M (s:List UInt8):(Lib.cut s [44]).1=(zN3 s).1∧(Lib.cut s [44]).2.1=(zN3 s).2:=by
 induction s with
 | nil=>exact ⟨by decide,by decide⟩
 | cons b l ih=>
   unfold Lib.cut at ih ⊢
   rw [zWw,zN3]
   by_cases hb:b=44
   · rw [if_pos hb,if_pos hb];simp
   · rw [if_neg hb,if_neg hb]
     have hge:=Lib.index_ge l [44]
     by_cases hi:Lib.index l [44]= -1
     · rw [hi] at ih
       rw [if_pos hi]
       simp at ih ⊢
       exact ⟨ih.1,ih.2⟩
     · rw [if_pos (show 0≤Lib.index l [44] by omega)] at ih
       rw [if_neg hi,if_pos (by omega)]
       have e:(Lib.index l [44]+1).toNat=(Lib.index l [44]).toNat+1:=by omega
       rw [e]
       simp at ih ⊢
       exact ih
def quT:List Int→List UInt8
 | []=>[]
 | [x]=>Lib.itoa x
 | x::y::r=>Lib.itoa x++[44]++quT (y::r)
def quG (s:List UInt8):Prop:=∃ xs:List Int,(∀ x∈xs,wf64 x)∧s=quT xs
theorem zOC (x:Int) (r:List Int) (h:r≠[]):quT (x::r)=Lib.itoa x++[44]++quT r:=by
 cases r with
 | nil=>exact absurd rfl h
 | cons y r=>rfl
theorem zlj {x:Int} (hx:wf64 x) (r:List Int):quT (x::r)≠[]:=by
 cases r with
 | nil=>exact z2w hx
 | cons y r=>simp [quT]
theorem zTj (xs:List Int) (h:∀ x∈xs,wf64 x) (a:Int):quT (xs++[a])=if quT xs=[] then Lib.itoa a else quT xs++[44]++Lib.itoa a:=by
 induction xs with
 | nil=>simp [quT]
 | cons x r ih=>
   rw [if_neg (zlj (h x (by simp)) r),List.cons_append,zOC x _ (by simp),ih (fun y hy=>h y (by simp [hy]))]
   cases r with
   | nil=>simp [quT]
   | cons y r=>
     rw [if_neg (zlj (h y (by simp)) r),zOC x (y::r) (by simp)]
     simp
theorem zoP {a:Int}:∀ c∈Lib.itoa a,c≠44:=by
 intro c hc
 unfold Lib.itoa at hc
 split at hc
 · rcases List.mem_cons.1 hc with rfl | hc
   · decide
   · exact (zot _).2.2.2 c hc
 · exact (zot _).2.2.2 c hc
theorem z89 (a b:List UInt8) (h:∀ c∈a,c≠44):zN3 (a++44::b)=(a,b):=by
 induction a with
 | nil=>simp [zN3]
 | cons c t ih=>
   rw [List.cons_append,zN3,if_neg (h c (by simp)),ih (fun x hx=>h x (by simp [hx]))]
theorem zn4 (x:Int) (r:List Int):zN3 (quT (x::r))=(Lib.itoa x,quT r):=by
 cases r with
 | nil=>exact zPM _ zoP
 | cons y r=>
   rw [zOC x _ (by simp),List.append_assoc]
   exact z89 _ _ zoP
theorem zSZ (ops:List OpV) (h:∀ o∈ops,OkM zsK o):Sim quDo [] id quG zsK ops where
 good0:=⟨[],by simp,rfl⟩
 first:=by decide
 inj:=fun s s' _ _ e=>e
 step:=by
  rintro s o ⟨xs,hxs,rfl⟩ ho
  obtain ⟨hn,ha,_⟩:=h o ho
  rcases (zWu hn).2.1 rfl with e | e
  · have hq:quG (if quT xs=[] then Lib.itoa o.arg else quT xs++[44]++Lib.itoa o.arg):=⟨xs++[o.arg],fun x hx=>by
     rcases List.mem_append.1 hx with hx | hx
     · exact hxs x hx
     · rw [List.mem_singleton] at hx;rw [hx];exact ha,(zTj xs hxs o.arg).symm⟩
    by_cases c:quT xs=[]
    · rw [if_pos c] at hq
      simp [quDo,ztI,e,zxX,nGet,zus,nPut,nCas,nDel,nEnq,c,hq]
    · rw [if_neg c,List.append_assoc] at hq
      simp [quDo,ztI,e,zxX,nGet,zus,nPut,nCas,nDel,nEnq,c]
      simpa using hq
  · obtain ⟨c1,c2⟩:=z3M (quT xs)
    cases xs with
    | nil=>
      have hN:(decP (zN3 (quT [])).1).isSome=false:=by decide
      have hV:numV (zN3 (quT [])).1=(0,0):=by decide
      have hG:quG (quT []):=⟨[],by simp,rfl⟩
      have hR:(zN3 (quT [])).2=quT []:=by decide
      simp only [quDo,ztI,e,zxX,nGet,zus,nPut,nCas,nDel,nEnq,nDeq,c1,hN,hV,hR,id]
      simp [hG]
    | cons x r=>
      rw [zn4] at c1 c2
      have hG:quG (quT r):=⟨r,fun y hy=>hxs y (by simp [hy]),rfl⟩
      have hx:=hxs x (by simp)
      simp [quDo,ztI,e,zxX,nGet,zus,nPut,nCas,nDel,nEnq,nDeq,c1,c2,z15 hx,zl2 hx,zn4,hG]
theorem zOn {m:List UInt8} {ops:List OpV} {b:Int} {ans:List UInt8} (h:Fit m ops b ans) (hid:∀ o∈ops,wf64 o.id):ans.length≤9000000:=by
 have hsub:∀ (Q:List OpV) (pl:List Nat),zrE ops pl Q→∀ o∈Q,wf64 o.id:=fun Q pl hQ o ho=>by
  obtain ⟨i,hi⟩:=List.mem_iff_getElem?.1 ho
  obtain ⟨p,_,hp⟩:=hQ.2 i o hi
  exact hid o (List.mem_of_getElem? hp)
 cases h with
 | unk e _=>rw [e];decide
 | ok Q pl cE e hQ hn hl ho ha hw=>
   have:=zXE Q (hsub Q pl hQ)
   rw [e];simp [sOrdJ];omega
 | ill Q pl cE e hQ hn hl ha hk=>
   have:=zXE Q (hsub Q pl hQ)
   rw [e];simp [zRS,z5z];omega
theorem fit_all (t m:List UInt8) (hm:lone3 m) (b:Int):zNG m t b:=by
 intro ops v hr hj
 obtain ⟨hN,hl⟩:=zpY hr
 have hO:=z7a hr
 obtain ⟨k,hR⟩:=zAl hr
 have hM:∀ o∈ops,OkM m o:=fun o ho=>⟨hN o ho,(hO o ho).2.2.1,(hO o ho).2.1⟩
 have hret:∀ o∈ops,0≤o.ret:=fun o ho=>by
  by_cases c:o.ret=0
  · omega
  · have h1:=hR.ret o ho c
    have h2:=hR.call o ho
    omega
 have hF:Fit m ops b (say v):=by
  rcases hj with ⟨e,hj⟩ | ⟨e,hj⟩ | ⟨e,hj⟩ | ⟨e,hj⟩ | ⟨e,hj⟩
  · subst e;exact zAM (z28 ops hM) hR.nodup hl hret hj
  · subst e;exact absurd hm (by unfold lone3;decide)
  · subst e;exact zAM (zSZ ops hM) hR.nodup hl hret hj
  · subst e;exact absurd hm (by unfold lone3;decide)
  · subst e;exact zAM (zFR ops hM) hR.nodup hl hret hj
 exact ⟨hF,⟨by omega,fun o ho=>(hO o ho).1,hR.ids,fun o ho=>⟨(hN o ho).names,(hM o ho).arg,(hN o ho).2.1,(hM o ho).cl⟩⟩,fun o ho=>(hN o ho).2.2 hm,zOn hF (fun o ho=>(hO o ho).1)⟩
end Go.Proofs.YtbbkihekjdffpaaGreatDoor.jd
