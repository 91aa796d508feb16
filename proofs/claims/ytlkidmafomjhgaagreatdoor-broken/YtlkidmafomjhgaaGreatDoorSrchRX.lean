/- Several texts in one. -/
import Derived.Test.YtlkidmafomjhgaaGreatDoorSrchBX
import Derived.Test.YtlkidmafomjhgaaGreatDoorSrchJY
set_option maxHeartbeats 2000000
set_option maxRecDepth 100000
namespace Go.Proofs.YtlkidmafomjhgaaGreatDoor.srch
open Go.RowKit
theorem zMZ {l:List Nat} {v:Int×Int×List UInt8} {r:List Nat} (h:zFD l=some (v,r)):v.2.2.length≤4*l.length:=by
 unfold zFD at h
 split at h
 · split at h
   · rename_i t r' ht
     simp at h;rw [←h.1]
     exact zfr ht
   · cases h
 · split at h
   · split at h
     · simp at h;rw [←h.1];exact Nat.zero_le _
     · cases h
   · split at h
     · split at h
       · simp at h;rw [←h.1];exact Nat.zero_le _
       · cases h
     · split at h
       · split at h
         · simp at h;rw [←h.1];exact Nat.zero_le _
         · cases h
       · split at h
         · simp at h;rw [←h.1];exact Nat.zero_le _
         · cases h
theorem zcV {l:List Nat} {m:Mem} {r:List Nat} {N:Nat} (hl:l.length≤N) (h:zcL l=some (m,r)):m.2.2.2.length≤4*N:=by
 unfold zcL at h
 split at h
 · cases h
 · rename_i nm r1 ht
   split at h
   · split at h
     · cases h
     · rename_i v r4 hv
       simp at h
       have h1:=zf7 ht
       have h2:=zMZ hv
       have h3:=zH7 r1
       have h4:=zH7 (zek r1).tail
       rw [List.length_tail] at h4
       rw [←h.1]
       show v.2.2.length≤4*N
       omega
   · cases h
theorem zmO (N f:Nat):∀ (acc:List Mem) (l:List Nat) (ms:List Mem) (r:List Nat),l.length≤N→(∀ m∈acc,m.2.2.2.length≤4*N)→zQf f acc l=some (ms,r)→∀ m∈ms,m.2.2.2.length≤4*N:=by
 induction f with
 | zero=>intro acc l ms r _ _ h;simp [zQf] at h
 | succ f ih=>
   intro acc l ms r hl ha h
   rw [zQf] at h
   split at h
   · cases h
   · rename_i m r1 hm
     have hg:=zcV hl hm
     have hr1:=zVf hm
     have ha':∀ x∈acc++[m],x.2.2.2.length≤4*N:=by
      intro x hx
      rcases List.mem_append.1 hx with h' | h'
      · exact ha x h'
      · simp at h';rw [h'];exact hg
     split at h
     · simp at h;rw [←h.1];exact ha'
     · split at h
       · refine ih _ _ _ _ ?_ ha' h
         have:=zH7 r1.tail
         simp at this
         omega
       · cases h
theorem znL {s:ByteArray} {ms:List Mem} (h:zIo s=some ms):∀ m∈ms,m.2.2.2.length≤4*s.size:=by
 unfold zIo at h
 split at h
 · split at h
   · cases h
   · rename_i ms' r ho
     split at h
     · simp at h
       subst h
       unfold zfb at ho
       have hr:=z75 s
       have h1:=zH7 (runesOf s)
       split at ho
       · split at ho
         · simp at ho;rw [ho.1];intro m hm;cases hm
         · refine zmO s.size _ [] _ _ _ ?_ (by simp) ho
           have:=zH7 (zek (runesOf s)).tail
           simp at this
           omega
       · cases ho
     · cases h
 · cases h
def okOp (N:Nat) (o:OpV):Prop:=okId o∧wfI o.cl∧wfI o.arg∧o.key.length≤4*N
theorem zFH {ms:List Mem} {N:Nat} (h:∀ m∈ms,zhZ N m) (nm:List UInt8): -9223372036854775808≤zqd ms nm∧zqd ms nm≤9223372036854775807:=by
 unfold zqd
 cases hf:z7R ms nm with
 | none=>exact ⟨by decide,by decide⟩
 | some m=>exact (h m (z1e4 hf)).2
theorem zpR {ms:List Mem} {N:Nat} (h:∀ m∈ms,m.2.2.2.length≤4*N) (nm:List UInt8):(zbh ms nm).length≤4*N:=by
 unfold zbh
 cases hf:z7R ms nm with
 | none=>exact Nat.zero_le _
 | some m=>exact h m (z1e4 hf)
theorem zKi {model:List UInt8} {ops ops':List OpV} {s:ByteArray} {line r:Int} {N:Nat} (hs:s.size≤N) (ho:∀ o∈ops,okOp N o) (h:addP model ops s line=(r,some ops')):∀ o∈ops',okOp N o:=by
 unfold addP at h
 split at h
 · injection h with _ h;cases h
 · rename_i ms hm
   have hg:=zau hm
   have ht:∀ m∈ms,m.2.2.2.length≤4*N:=fun m hm'=>Nat.le_trans (znL hm m hm') (by omega)
   split at h
   · split at h
     · injection h with _ h
       unfold zRl at h
       dsimp only at h
       split at h
       · cases h
       · split at h
         · split at h
           · cases h
           · split at h
             · cases h
             · simp at h
               subst h
               intro o hx
               rcases List.mem_append.1 hx with hx | hx
               · exact ho o hx
               · rw [List.mem_singleton] at hx
                 subst hx
                 exact ⟨zFH hg _,zFH hg _,zFH hg _,zpR ht _⟩
         · cases h
     · split at h
       · unfold retP at h
         split at h
         · injection h with _ h;cases h
         · split at h
           · injection h with _ h;cases h
           · rename_i i _ o he
             split at h
             · injection h with _ h;cases h
             · split at h
               · injection h with _ h
                 injection h with h
                 subst h
                 intro x hx
                 rcases List.mem_or_eq_of_mem_set hx with hx | hx
                 · exact ho x hx
                 · subst hx
                   exact ho o (List.mem_of_getElem? he)
               · injection h with _ h;cases h
       · injection h with _ h;cases h
   · injection h with _ h;cases h
theorem zDd (t s:List UInt8):(Lib.cut t s).1.length≤t.length:=by
 unfold Lib.cut
 split <;> simp <;> omega
theorem zo5 (t s:List UInt8):(Lib.cut t s).2.1.length≤t.length:=by
 unfold Lib.cut
 split <;> simp <;> omega
theorem zUe (model:List UInt8) (N:Nat):∀ (f:Nat) (ops:List OpV) (t:List UInt8) (k:Nat) (res:List OpV),t.length≤N→(∀ o∈ops,okOp N o)→zIn model f ops t k=.inl res→∀ o∈res,okOp N o:=by
 intro f
 induction f with
 | zero=>intro ops t k res _ _ h;simp [zIn] at h
 | succ f ih=>
   intro ops t k res ht ho h
   unfold zIn at h
   split at h
   · injection h with h;subst h;exact ho
   · split at h
     · cases h
     · split at h
       · cases h
       · rename_i r ops' he
         refine ih ops' _ _ res (Nat.le_trans (zo5 _ _) ht) (zKi ?_ ho he) h
         show (Lib.cut t [10]).1.toArray.size≤N
         rw [List.size_toArray]
         exact Nat.le_trans (zDd _ _) ht
theorem z7a {model t:List UInt8} {ops:List OpV} (h:z8w model t=.inl ops):∀ o∈ops,okOp t.length o:=zUe model t.length 129 [] t 0 ops (Nat.le_refl _) (by simp) h
theorem znh (l:List Nat) (h:∀ x∈l,x=0):l.sum=0:=by
 induction l with
 | nil=>rfl
 | cons x t ih=>rw [List.sum_cons,h x (by simp),ih (fun y hy=>h y (by simp [hy]))]
theorem zzy (ks:List (List UInt8)) (k0:List UInt8) (h:ks.Nodup):(ks.map (fun k=>if k0=k then 1 else 0)).sum≤1:=by
 induction ks with
 | nil=>simp
 | cons k t ih=>
   obtain ⟨h1,h2⟩:=List.nodup_cons.1 h
   rw [List.map_cons,List.sum_cons]
   by_cases e:k0=k
   · subst e
     have:(t.map (fun k=>if k0=k then 1 else 0)).sum=0:=by
      refine znh _ ?_
      intro x hx
      obtain ⟨y,hy,rfl⟩:=List.mem_map.1 hx
      rw [if_neg (fun e=>h1 (by rw [e];exact hy))]
     rw [this,if_pos rfl]
     exact Nat.le_refl _
   · rw [if_neg e]
     have:=ih h2
     omega
theorem z70 (ks:List (List UInt8)) (f g:List UInt8→Nat):(ks.map (fun k=>f k+g k)).sum=(ks.map f).sum+(ks.map g).sum:=by
 induction ks with
 | nil=>rfl
 | cons k t ih=>simp only [List.map_cons,List.sum_cons,ih];omega
theorem zV4 (ks:List (List UInt8)) (h:ks.Nodup) (l:List OpV):(ks.map (fun k=>(flt k l).length)).sum≤l.length:=by
 induction l with
 | nil=>
   have:(ks.map (fun k=>(flt k []).length)).sum=0:=by
    refine znh _ ?_
    intro x hx
    obtain ⟨y,_,rfl⟩:=List.mem_map.1 hx
    rfl
   rw [this];exact Nat.zero_le _
 | cons o t ih=>
   have e:(fun k=>(flt k (o::t)).length)=(fun k=>(if o.key=k then 1 else 0)+(flt k t).length):=by
    funext k
    unfold flt
    rw [List.filter_cons]
    by_cases h:o.key=k
    · simp [h];omega
    · simp [h]
   rw [e,z70,List.length_cons]
   have:=zzy ks o.key h
   omega
theorem z9L (l:List OpV):sumL ((byKeyP l).map (·.2))≤l.length:=by
 unfold sumL byKeyP
 rw [List.map_map,List.map_map]
 refine zV4 (sortedU l) ?_ l
 unfold sortedU
 exact (List.mergeSort_perm _ _).nodup_iff.2 (z1b l)
theorem zfo (k:List UInt8):(qKey k).length≤6*k.length+2:=by
 unfold qKey
 have:=zGl k
 simp only [List.cons_append,List.length_cons,List.length_append,List.length_nil]
 omega
theorem z1p {l:List OpV} {q:List UInt8×List OpV} (h:q∈byKeyP l) (hk:∀ o∈l,o.key.length≤10000000):q.2.length≤l.length∧q.1.length≤100000000∧∀ o∈q.2,o∈l:=by
 obtain ⟨k,hk1,rfl⟩:=List.mem_map.1 h
 refine ⟨zdB k l,?_,fun o ho=>(List.mem_filter.1 ho).1⟩
 obtain ⟨o,ho⟩:=List.exists_mem_of_ne_nil _ (zMI hk1)
 have h2:=(List.mem_filter.1 ho)
 have h3:=hk o h2.1
 rw [of_decide_eq_true h2.2] at h3
 have:=zfo k
 show (qKey k).length≤_
 omega
theorem zAq (a:Option Addr) (c:Nat) (ops:List OpV) (b:Int) (w:World) (hr:OAt w a ops) (hb: -9223372036854775808≤b∧b≤1000000) (hl:ops.length≤128) (ho:∀ o∈ops,wfI o.arg∧okId o) (hp:Pow w) (hkey:∀ o∈ops,o.key.length≤10000000):
 Calls Tryz.prog 29 #[.string ⟨#[107,118]⟩,.slice a ops.length c,.int .i64 b] w fun e w'=>∃ v,Judged (fun p b r=>Found stDo (ordO p) (false,0) b r) (byKeyP ops) b [] v∧e=.returned (.string ⟨(say v).toArray⟩)∧Below w.heap.size w w':=by
 have hw:=zpj a c ops w hr hl hkey
 have hln:(byKeyP ops).length≤1000:=by unfold byKeyP;rw [List.length_map];have:=zXk ops;omega
 have hsm:=z9L ops
 have HJ:=Hid.mk' (fun a1 c1 w' (h1:PAt w' a1 (byKeyP ops)) (h2:Pow w')=>zZe a1 c1 (byKeyP ops) b w' h1 hb (fun q hq=>by have h:=z1p hq hkey;exact ⟨by omega,h.2.1,fun o hoq=>ho o (h.2.2 o hoq)⟩) (by omega) hln h2)
 have HP:=Hid.mk' hp
 clear hr ho hp hkey hln hsm
 generalize byKeyP ops=ps at*
 go_enter Tryz.func29,Tryz.ntmps29
 go_wp2_with (go_at_call 48;refine hw.mono ?_;rintro e w2 ⟨a1,c1,rfl,h1,h2⟩;have h3:=HJ.out a1 c1 w2 h1 (HP.out.stays h2);have HB:=Hid.mk' h2;clear h1 h2)
 refine h3.mono ?_
 rintro e w3 ⟨v,hv,rfl,hb3⟩
 have HV:=Hid.mk' (And.intro hv hb3)
 clear hv hb3 h3
 go_wp2
 go_ret
 exact ⟨v,HV.out.1,rfl,HB.out.trans (HV.out.2.mono HB.out.size)⟩
theorem zvg (a:Option Addr) (c:Nat) (ops:List OpV) (b:Int) (w:World) (hr:OAt w a ops) (hb: -9223372036854775808≤b∧b≤1000000) (hl:ops.length≤128) (ho:∀ o∈ops,wfI o.arg∧okId o) (hp:Pow w) (hkey:∀ o∈ops,o.key.length≤10000000):
 Calls Tryz.prog 29 #[.string ⟨#[115,101,116]⟩,.slice a ops.length c,.int .i64 b] w fun e w'=>∃ v,Judged (fun p b r=>Found zqY (ordO p) false b r) (byKeyP ops) b [] v∧e=.returned (.string ⟨(say v).toArray⟩)∧Below w.heap.size w w':=by
 have hw:=zpj a c ops w hr hl hkey
 have hln:(byKeyP ops).length≤1000:=by unfold byKeyP;rw [List.length_map];have:=zXk ops;omega
 have hsm:=z9L ops
 have HJ:=Hid.mk' (fun a1 c1 w' (h1:PAt w' a1 (byKeyP ops)) (h2:Pow w')=>zCt a1 c1 (byKeyP ops) b w' h1 hb (fun q hq=>by have h:=z1p hq hkey;exact ⟨by omega,h.2.1,fun o hoq=>ho o (h.2.2 o hoq)⟩) (by omega) hln h2)
 have HP:=Hid.mk' hp
 clear hr ho hp hkey hln hsm
 generalize byKeyP ops=ps at*
 go_enter Tryz.func29,Tryz.ntmps29
 go_wp2_with (go_at_call 48;refine hw.mono ?_;rintro e w2 ⟨a1,c1,rfl,h1,h2⟩;have h3:=HJ.out a1 c1 w2 h1 (HP.out.stays h2);have HB:=Hid.mk' h2;clear h1 h2)
 refine h3.mono ?_
 rintro e w3 ⟨v,hv,rfl,hb3⟩
 have HV:=Hid.mk' (And.intro hv hb3)
 clear hv hb3 h3
 go_wp2
 go_ret
 exact ⟨v,HV.out.1,rfl,HB.out.trans (HV.out.2.mono HB.out.size)⟩
theorem zRC (a:Option Addr) (c:Nat) (ops:List OpV) (b:Int) (w:World) (hr:OAt w a ops) (hb: -9223372036854775808≤b∧b≤1000000) (hl:ops.length≤128) (ho:∀ o∈ops,wfI o.arg∧okId o) (hp:Pow w) (hG:Glob w):
 Calls Tryz.prog 29 #[.string ⟨#[113,117,101,117,101]⟩,.slice a ops.length c,.int .i64 b] w fun e w'=>∃ v,Judged (fun p b r=>Found quDo (ordO p) [] b r) ([([45],ops)]) b [] v∧e=.returned (.string ⟨(say v).toArray⟩)∧Below w.heap.size w w':=by
 have hw:=zjc a c ops w hr
 have HJ:=Hid.mk' (fun w' (h1:PAt w' (some ⟨w.heap.size,0,none⟩) [([45],ops)]) (h2:Pow w') (h3:Glob w')=>zQY (some ⟨w.heap.size,0,none⟩) 1 [([45],ops)] b w' h1 hb (by intro q hq;rw [List.mem_singleton] at hq;subst hq;exact ⟨hl,by simp,ho⟩) (by simpa [sumL] using hl) (by simp) h2 h3)
 have HP:=Hid.mk' hp
 have HG:=Hid.mk' hG
 clear hr ho hp hG
 go_enter Tryz.func29,Tryz.ntmps29
 go_wp2_with (go_at_call 46;refine hw.mono ?_;rintro e w2 ⟨rfl,h1,h2⟩;have h3:=HJ.out w2 h1 (HP.out.stays h2) (HG.out.below (h2.mono HG.out.errs.lt));have HB:=Hid.mk' h2;clear h1 h2)
 refine h3.mono ?_
 rintro e w3 ⟨v,hv,rfl,hb3⟩
 have HV:=Hid.mk' (And.intro hv hb3)
 clear hv hb3 h3
 go_wp2
 go_ret
 exact ⟨v,HV.out.1,rfl,HB.out.trans (HV.out.2.mono HB.out.size)⟩
theorem z9Z (a:Option Addr) (c:Nat) (ops:List OpV) (b:Int) (w:World) (hr:OAt w a ops) (hb: -9223372036854775808≤b∧b≤1000000) (hl:ops.length≤128) (ho:∀ o∈ops,wfI o.cl∧okId o) (hp:Pow w):
 Calls Tryz.prog 29 #[.string ⟨#[108,111,99,107]⟩,.slice a ops.length c,.int .i64 b] w fun e w'=>∃ v,Judged (fun p b r=>Found lkDo (ordO p) (false,0) b r) ([([45],ops)]) b [] v∧e=.returned (.string ⟨(say v).toArray⟩)∧Below w.heap.size w w':=by
 have hw:=zjc a c ops w hr
 have HJ:=Hid.mk' (fun w' (h1:PAt w' (some ⟨w.heap.size,0,none⟩) [([45],ops)]) (h2:Pow w')=>zvN (some ⟨w.heap.size,0,none⟩) 1 [([45],ops)] b w' h1 hb (by intro q hq;rw [List.mem_singleton] at hq;subst hq;exact ⟨hl,by simp,ho⟩) (by simpa [sumL] using hl) (by simp) h2)
 have HP:=Hid.mk' hp
 clear hr ho hp
 go_enter Tryz.func29,Tryz.ntmps29
 go_wp2_with (go_at_call 46;refine hw.mono ?_;rintro e w2 ⟨rfl,h1,h2⟩;have h3:=HJ.out w2 h1 (HP.out.stays h2);have HB:=Hid.mk' h2;clear h1 h2)
 refine h3.mono ?_
 rintro e w3 ⟨v,hv,rfl,hb3⟩
 have HV:=Hid.mk' (And.intro hv hb3)
 clear hv hb3 h3
 go_wp2
 go_ret
 exact ⟨v,HV.out.1,rfl,HB.out.trans (HV.out.2.mono HB.out.size)⟩
def JudgedOf (model:List UInt8) (ops:List OpV) (b:Int) (v:Nat×List UInt8×List (List OpV)):Prop:=
 (model=sReg∧Judged (fun p b r=>Found zCI (ordO p) 0 b r) [([45],ops)] b [] v)∨(model=sKv∧Judged (fun p b r=>Found stDo (ordO p) (false,0) b r) (byKeyP ops) b [] v)∨
 (model=zsK∧Judged (fun p b r=>Found quDo (ordO p) [] b r) [([45],ops)] b [] v)∨(model=sSet∧Judged (fun p b r=>Found zqY (ordO p) false b r) (byKeyP ops) b [] v)∨
 (model=zyy∧Judged (fun p b r=>Found lkDo (ordO p) (false,0) b r) [([45],ops)] b [] v)
theorem zWe {m:List UInt8} (h:zNI m opTab=true):m=sReg∨m=sKv∨m=zsK∨m=sSet∨m=zyy:=by
 unfold zNI at h
 rw [List.any_eq_true] at h
 obtain ⟨r,hr,he⟩:=h
 rw [beq_iff_eq] at he
 subst he
 simp only [opTab,List.mem_cons,List.not_mem_nil,or_false] at hr
 rcases hr with rfl | rfl | rfl | rfl | rfl | rfl | rfl | rfl | rfl | rfl | rfl | rfl | rfl
 all_goals simp
theorem zZd (model:List UInt8) (a:Option Addr) (c:Nat) (ops:List OpV) (b:Int) (w:World) (hm:zNI model opTab=true) (hr:OAt w a ops) (hb: -9223372036854775808≤b∧b≤1000000) (hl:ops.length≤128) (ho:∀ o∈ops,okOp 2000000 o) (hp:Pow w) (hG:Glob w):
 Calls Tryz.prog 29 #[.string ⟨model.toArray⟩,.slice a ops.length c,.int .i64 b] w fun e w'=>∃ v,JudgedOf model ops b v∧e=.returned (.string ⟨(say v).toArray⟩)∧Below w.heap.size w w':=by
 have hk:∀ o∈ops,o.key.length≤10000000:=fun o h=>by have:=(ho o h).2.2.2;omega
 rcases zWe hm with rfl | rfl | rfl | rfl | rfl
 · refine (zOm a c ops b w hr hb hl (fun o h=>⟨(ho o h).2.2.1,(ho o h).1⟩) hp).mono ?_
   rintro e w' ⟨v,h1,h2⟩
   exact ⟨v,.inl ⟨rfl,h1⟩,h2⟩
 · refine (zAq a c ops b w hr hb hl (fun o h=>⟨(ho o h).2.2.1,(ho o h).1⟩) hp hk).mono ?_
   rintro e w' ⟨v,h1,h2⟩
   exact ⟨v,.inr (.inl ⟨rfl,h1⟩),h2⟩
 · refine (zRC a c ops b w hr hb hl (fun o h=>⟨(ho o h).2.2.1,(ho o h).1⟩) hp hG).mono ?_
   rintro e w' ⟨v,h1,h2⟩
   exact ⟨v,.inr (.inr (.inl ⟨rfl,h1⟩)),h2⟩
 · refine (zvg a c ops b w hr hb hl (fun o h=>⟨(ho o h).2.2.1,(ho o h).1⟩) hp hk).mono ?_
   rintro e w' ⟨v,h1,h2⟩
   exact ⟨v,.inr (.inr (.inr (.inl ⟨rfl,h1⟩))),h2⟩
 · refine (z9Z a c ops b w hr hb hl (fun o h=>⟨(ho o h).2.1,(ho o h).1⟩) hp).mono ?_
   rintro e w' ⟨v,h1,h2⟩
   exact ⟨v,.inr (.inr (.inr (.inr ⟨rfl,h1⟩))),h2⟩
theorem z4j (model:List UInt8) (ops:List OpV) (s:ByteArray) (line:Int):0≤(addP model ops s line).1∧(addP model ops s line).1≤8:=by
 unfold addP
 split
 · decide
 · split
   · split
     · dsimp only
       unfold zRl
       dsimp only
       split
       · decide
       · split
         · split
           · decide
           · split
             · decide
             · dsimp only;decide
         · decide
     · split
       · unfold retP
         split
         · decide
         · split
           · decide
           · split
             · decide
             · split
               · dsimp only;decide
               · decide
       · decide
   · decide
theorem zib (model:List UInt8):∀ (f:Nat) (ops:List OpV) (t:List UInt8) (k:Nat) (l r:Int),zIn model f ops t k=.inr (l,r)→0≤l∧l≤(k:Int)+f∧1≤r∧r≤8:=by
 intro f
 induction f with
 | zero=>
   intro ops t k l r h
   simp [zIn] at h
   omega
 | succ f ih=>
   intro ops t k l r h
   unfold zIn at h
   split at h
   · cases h
   · split at h
     · injection h with h;injection h with h1 h2;omega
     · have ha:=z4j model ops ⟨(Lib.cut t [10]).1.toArray⟩ ((k:Int)+1)
       split at h
       · rename_i r' he
         have hk:=zIME model ops ⟨(Lib.cut t [10]).1.toArray⟩ ((k:Int)+1)
         rw [he] at ha hk
         injection h with h;injection h with h1 h2
         dsimp only at ha hk
         rcases hk with ⟨_,h3⟩ | ⟨h3,_⟩
         · cases h3
         · omega
       · have:=ih _ _ _ _ _ h
         omega
theorem zAR {model t:List UInt8} {l r:Int} (h:z8w model t=.inr (l,r)):0≤l∧l≤129∧1≤r∧r≤8:=by
 have:=zib model 129 [] t 0 l r h
 omega
def zcY:List UInt8:=[78,79,45,77,79,68,69,76,10]
def sRej (l r:Int):List UInt8:=[82,69,74,69,67,84,69,68,45,73,78,80,85,84,32,108,105,110,101,61]++Lib.itoa l++[32,114,101,97,115,111,110,61]++Lib.itoa r++[10]
def zkp (model t:List UInt8) (b:Int) (out:List UInt8):Prop:=
 (zNI model opTab=false∧out=zcY)∨(zNI model opTab=true∧((∃ l r,z8w model t=.inr (l,r)∧r≠0∧out=sRej l r)∨∃ ops v,z8w model t=.inl ops∧JudgedOf model ops (min b 1000000) v∧out=say v))
theorem z5C (n:Int) (h0: -9223372036854775808≤n) (h1:n≤9223372036854775807) (w:World) (hp:Pow w):
 Calls Tryz.prog 28 #[.int .i64 n] w fun e w'=>e=.returned (.string ⟨(Lib.itoa n).toArray⟩)∧Below w.heap.size w w':=by
 refine (Tryz.strconv_Itoa n h0 h1 w hp).mono ?_
 rintro e w' ⟨rfl,k,os,rfl⟩
 exact ⟨rfl,Lib.below_grow _ _ (Nat.le_refl _) _ _⟩
theorem z2m (l r:Int):(⟨#[82,69,74,69,67,84,69,68,45,73,78,80,85,84,32,108,105,110,101,61]⟩:ByteArray)++⟨(Lib.itoa l).toArray⟩++⟨#[32,114,101,97,115,111,110,61]⟩++⟨(Lib.itoa r).toArray⟩++⟨#[10]⟩=⟨(sRej l r).toArray⟩:=by
 apply ByteArray.ext
 simp [sRej]
theorem zWT (t model:List UInt8) (b:Int) (w:World) (hg:Glob w) (hp:Pow w) (ht:t.length≤2000000) (hb: -9223372036854775808≤b∧b≤9223372036854775807):
 Calls Tryz.prog 11 #[.string ⟨t.toArray⟩,.string ⟨model.toArray⟩,.int .i64 b] w fun e w'=>∃ out,zkp model t b out∧e=.returned (.string ⟨out.toArray⟩)∧Below w.heap.size w w':=by
 have hrd:=zjT ⟨t.toArray⟩ ⟨model.toArray⟩ w hg (by show t.toArray.size≤_;rw [List.size_toArray];exact ht)
 have HG:=Hid.mk' (And.intro hg hp)
 clear hg hp
 go_enter Tryz.func11,Tryz.ntmps11
 go_wp2_with fail
 refine hrd.mono ?_
 rintro e w1 ⟨hb1,⟨hkn,rfl⟩ | ⟨hkn,⟨ops,v,hrp,hlo,hown,rfl⟩ | ⟨l,r,hrp,rfl⟩⟩⟩
 · go_wp2
   go_ret
   exact ⟨zcY,.inl ⟨hkn,rfl⟩,rfl,hb1⟩
 · obtain ⟨va,vc,rfl⟩:=zIW hown
   have hok:=z7a hrp
   have hj:=zZd model va vc ops (min b 1000000) w1 hkn (z6a hown) ⟨by omega,by omega⟩ hlo (fun o ho=>by have h:=hok o ho;exact ⟨h.1,h.2.1,h.2.2.1,by have:=h.2.2.2;omega⟩) (HG.out.2.stays hb1) (HG.out.1.below (hb1.mono HG.out.1.errs.lt))
   have HX:=Hid.mk' (And.intro hrp (And.intro hkn hb1))
   clear hrp hkn hb1 hok hown
   generalize hmb:min b 1000000=mb at hj
   have HMB:=Hid.mk' hmb
   go_wp2_with fail
   refine hj.mono ?_
   rintro e w2 ⟨v,hv,rfl,hb2⟩
   have HV:=Hid.mk' (And.intro hv hb2)
   clear hv hb2
   go_wp2
   go_ret
   refine ⟨say v,.inr ⟨HX.out.2.1,.inr ⟨ops,v,HX.out.1,by rw [HMB.out];exact HV.out.1,rfl⟩⟩,rfl,HX.out.2.2.trans (HV.out.2.mono HX.out.2.2.size)⟩
 · have hlr:=zAR hrp
   have hr0:(r != 0)=true:=by rw [bne_iff_ne];omega
   have hrn:r≠0:=by omega
   have h1:=z5C l (by omega) (by omega) w1 (HG.out.2.stays hb1)
   have HX:=Hid.mk' (And.intro hrp (And.intro hkn (And.intro hb1 hrn)))
   have hll:=Lib.itoa_length_le l (by omega) (by omega)
   have hrl:=Lib.itoa_length_le r (by omega) (by omega)
   clear hrp hkn hrn
   go_wp2_with (first
    | (go_at_call 28;refine h1.mono ?_;rintro e w2 ⟨rfl,hb2⟩;have h2:=z5C r (by omega) (by omega) w2 (HG.out.2.stays (hb1.trans (hb2.mono hb1.size)));have HB2:=Hid.mk' (hb1.trans (hb2.mono hb1.size));clear h1 hb2)
    | (go_at_call 28;refine h2.mono ?_;rintro e w3 ⟨rfl,hb3⟩;have HB3:=Hid.mk' (HB2.out.trans (hb3.mono HB2.out.size));clear h2 hb3))
   go_ret
   exact ⟨sRej l r,.inr ⟨HX.out.2.1,.inl ⟨l,r,HX.out.1,HX.out.2.2.2,rfl⟩⟩,congrArg (fun x=>Ending.returned (Value.string x)) (z2m l r),HB3.out⟩
theorem zXs {σ:Type} [DecidableEq σ] {doit:σ→OpV→σ×Int×Int} {s0:σ} {l:List (List UInt8×List OpV)} {b:Int} {acc:List (List OpV)} {v v':Nat×List UInt8×List (List OpV)} (h:Judged (fun p b r=>Found doit (ordO p) s0 b r) l b acc v) (h':Judged (fun p b r=>Found doit (ordO p) s0 b r) l b acc v'):v=v':=
 Judged.one (S:=fun p b r=>Found doit (ordO p) s0 b r) (fun p _ _ _ x y=>Found.one doit (ordO p) x y) h h'
theorem JudgedOf.one {model:List UInt8} {ops:List OpV} {b:Int} {v v':Nat×List UInt8×List (List OpV)} (h:JudgedOf model ops b v) (h':JudgedOf model ops b v'):v=v':=by
 have ne:sReg≠sKv∧sReg≠zsK∧sReg≠sSet∧sReg≠zyy∧sKv≠zsK∧sKv≠sSet∧sKv≠zyy∧zsK≠sSet∧zsK≠zyy∧sSet≠zyy:=by decide
 obtain ⟨n1,n2,n3,n4,n5,n6,n7,n8,n9,n10⟩:=ne
 rcases h with ⟨e,h⟩ | ⟨e,h⟩ | ⟨e,h⟩ | ⟨e,h⟩ | ⟨e,h⟩ <;> subst e <;> rcases h' with ⟨e',h'⟩ | ⟨e',h'⟩ | ⟨e',h'⟩ | ⟨e',h'⟩ | ⟨e',h'⟩
 all_goals first
  | exact zXs h h'
  | exact absurd e' (by assumption)
  | exact absurd e'.symm (by assumption)
def tA:List UInt8:=[123,34,99,97,108,108,34,58,52,44,34,98,121,34,58,49,44,34,111,112,34,58,34,114,101,97,100,34,125,10,123,34,114,101,116,34,58,52,44,34,118,97,108,34,58,48,125]
def tB:List UInt8:=[123,34,99,97,108,108,34,58,52,44,34,98,121,34,58,49,44,34,111,112,34,58,34,114,101,97,100,34,125,10,123,34,114,101,116,34,58,52,44,34,118,97,108,34,58,49,125]
def oA:OpV:=⟨4,1,[114,101,97,100],[],0,0,1,2,1,0⟩
def oB:OpV:=⟨4,1,[114,101,97,100],[],0,0,1,2,1,1⟩
theorem zI5:z8w sReg tA=.inl [oA]:=by kernel_rfl
theorem z3f:z8w sReg tB=.inl [oB]:=by kernel_rfl
theorem zFo:Found zCI (ordO [oA]) 0 1000000 ⟨1,[oA],999999⟩:=⟨10,by kernel_rfl⟩
theorem zrq:Found zCI (ordO [oB]) 0 1000000 ⟨2,[],999999⟩:=⟨10,by kernel_rfl⟩
theorem sayA:say (1,[],[[oA]])=[79,75,32,111,114,100,101,114,61,52,10]:=by kernel_rfl
theorem sayB:say (2,[45],[[]])=[73,76,76,69,71,65,76,32,112,97,114,116,61,45,32,108,111,110,103,101,115,116,61,10]:=by kernel_rfl
theorem zBS {x:List UInt8} (h:zkp sReg tA 1099511627776 x):x=[79,75,32,111,114,100,101,114,61,52,10]:=by
 have k:zNI sReg opTab=true:=by decide
 rcases h with ⟨k',_⟩ | ⟨_,⟨l,r,e,_⟩ | ⟨ops,v,e,j,rfl⟩⟩
 · rw [k] at k';cases k'
 · rw [zI5] at e;cases e
 · rw [zI5] at e;injection e with e;subst e
   have w:JudgedOf sReg [oA] (min 1099511627776 1000000) (1,[],[[oA]]):=.inl ⟨rfl,.next _ _ _ _ _ _ _ zFo rfl (.ok _ _)⟩
   rw [j.one w]
   exact sayA
theorem zV1 {x:List UInt8} (h:zkp sReg tB 1099511627776 x):x=[73,76,76,69,71,65,76,32,112,97,114,116,61,45,32,108,111,110,103,101,115,116,61,10]:=by
 have k:zNI sReg opTab=true:=by decide
 rcases h with ⟨k',_⟩ | ⟨_,⟨l,r,e,_⟩ | ⟨ops,v,e,j,rfl⟩⟩
 · rw [k] at k';cases k'
 · rw [z3f] at e;cases e
 · rw [z3f] at e;injection e with e;subst e
   have w:JudgedOf sReg [oB] (min 1099511627776 1000000) (2,[45],[[]]):=.inl ⟨rfl,.illegal _ _ _ _ _ ⟨2,[],999999⟩ zrq rfl⟩
   rw [j.one w]
   exact sayB
theorem zqC (w:World) (hg:Glob w) (hp:Pow w):
 Calls Tryz.prog 10 #[] w fun e w'=>e=.returned (.bool true)∧Below w.heap.size w w':=by
 have h1:=zWT tA sReg 1099511627776 w hg hp (by decide) (by decide)
 have H2:=Hid.mk' (fun W (h:Below w.heap.size w W)=>zWT tB sReg 1099511627776 W (hg.below (h.mono hg.errs.lt)) (hp.stays h) (by decide) (by decide))
 clear hg hp
 go_enter Tryz.func10,Tryz.ntmps10
 go_wp2_with (first
  | (go_at_call 11;refine h1.mono ?_;rintro e w2 ⟨x,hx,rfl,hb2⟩;have hx':=zBS hx;subst hx';have h2:=H2.out w2 hb2;have HB2:=Hid.mk' hb2;clear h1 hx hb2)
  | (go_at_call 11;refine h2.mono ?_;rintro e w3 ⟨y,hy,rfl,hb3⟩;have hy':=zV1 hy;subst hy';have HB3:=Hid.mk' (HB2.out.trans (hb3.mono HB2.out.size));clear h2 hy hb3))
 go_ret
 exact ⟨rfl,HB3.out⟩
end Go.Proofs.YtlkidmafomjhgaaGreatDoor.srch
