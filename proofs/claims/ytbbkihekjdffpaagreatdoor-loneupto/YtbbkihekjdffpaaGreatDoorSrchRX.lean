/- Several texts in one. -/
import Derived.Test.YtbbkihekjdffpaaGreatDoorSrchJY
import Derived.Lib.AppendStr
import Derived.Lib.ConvBytes
import Derived.Sort.KeysCollected
set_option maxHeartbeats 2000000
set_option maxRecDepth 100000
namespace Go.Proofs.YtbbkihekjdffpaaGreatDoor.srch
open Go.RowKit
def hexL:List UInt8:=[48,49,50,51,52,53,54,55,56,57,97,98,99,100,101,102]
def z9l (c:UInt8):List UInt8:=if c.toNat=34∨c.toNat=92 then [92,c] else if c.toNat < 32 then [92,117,48,48,hexL.getD (c.toNat / 16) 0,hexL.getD (c.toNat % 16) 0] else [c]
def qKey (key:List UInt8):List UInt8:=34::key.flatMap z9l++[34]
end Go.Proofs.YtbbkihekjdffpaaGreatDoor.srch
namespace Go.Proofs.YtbbkihekjdffpaaGreatDoor.srch
open Go.RowKit Go.Maps
def flt (k:List UInt8) (l:List OpV):List OpV:=l.filter (fun o=>decide (o.key=k))
def z4U:List OpV→List (List UInt8)
 | []=>[]
 | o::t=>if o.key∈z4U t then z4U t else o.key::z4U t
end Go.Proofs.YtbbkihekjdffpaaGreatDoor.srch
namespace Go.Proofs.YtbbkihekjdffpaaGreatDoor.srch
open Go.RowKit Go.Maps Go.Sort
def zD5 (l:List OpV):List (List UInt8):=(z4U l).mergeSort (fun x y=>decide (x≤y))
def zWP (l:List OpV):List (List UInt8×List OpV):=(zD5 l).map (fun k=>(qKey k,flt k l))
end Go.Proofs.YtbbkihekjdffpaaGreatDoor.srch
namespace Go.Proofs.YtbbkihekjdffpaaGreatDoor.srch
open Go.RowKit
theorem zMZ {l:List Nat} {v:Int×Int×List UInt8} {r:List Nat} (h:zFD l=some (v,r)):v.2.2.length≤4*l.length:=by
 unfold zFD at h
 split at h
 · split at h
   · rename_i t r' ht
     simp at h;rw [←h.1]
     exact zer ht
   · cases h
 · split at h
   · split at h
     · simp at h;rw [←h.1];exact Nat.zero_le _
     · cases h
   · split at h
     · split at h
       · simp at h;rw [←h.1];exact Nat.zero_le _
       · cases h
     · split at h
       · split at h
         · simp at h;rw [←h.1];exact Nat.zero_le _
         · cases h
       · split at h
         · simp at h;rw [←h.1];exact Nat.zero_le _
         · cases h
theorem zcV {l:List Nat} {m:Mem} {r:List Nat} {N:Nat} (hl:l.length≤N) (h:zcL l=some (m,r)):m.2.2.2.length≤4*N:=by
 unfold zcL at h
 split at h
 · cases h
 · rename_i nm r1 ht
   split at h
   · split at h
     · cases h
     · rename_i v r4 hv
       simp at h
       have h1:=zf7 ht
       have h2:=zMZ hv
       have h3:=zH7 r1
       have h4:=zH7 (zek r1).tail
       rw [List.length_tail] at h4
       rw [←h.1]
       show v.2.2.length≤4*N
       omega
   · cases h
theorem zmO (N f:Nat):∀ (acc:List Mem) (l:List Nat) (ms:List Mem) (r:List Nat),l.length≤N→(∀ m∈acc,m.2.2.2.length≤4*N)→zQf f acc l=some (ms,r)→∀ m∈ms,m.2.2.2.length≤4*N:=by
 induction f with
 | zero=>intro acc l ms r _ _ h;simp [zQf] at h
 | succ f ih=>
   intro acc l ms r hl ha h
   rw [zQf] at h
   split at h
   · cases h
   · rename_i m r1 hm
     have hg:=zcV hl hm
     have hr1:=zVf hm
     have ha':∀ x∈acc++[m],x.2.2.2.length≤4*N:=by
      intro x hx
      rcases List.mem_append.1 hx with h' | h'
      · exact ha x h'
      · simp at h';rw [h'];exact hg
     split at h
     · simp at h;rw [←h.1];exact ha'
     · split at h
       · refine ih _ _ _ _ ?_ ha' h
         have:=zH7 r1.tail
         simp at this
         omega
       · cases h
theorem znL {s:ByteArray} {ms:List Mem} (h:zIo s=some ms):∀ m∈ms,m.2.2.2.length≤4*s.size:=by
 unfold zIo at h
 split at h
 · split at h
   · cases h
   · rename_i ms' r ho
     split at h
     · simp at h
       subst h
       unfold zfb at ho
       have hr:=z75 s
       have h1:=zH7 (runesOf s)
       split at ho
       · split at ho
         · simp at ho;rw [ho.1];intro m hm;cases hm
         · refine zmO s.size _ [] _ _ _ ?_ (by simp) ho
           have:=zH7 (zek (runesOf s)).tail
           simp at this
           omega
       · cases ho
     · cases h
 · cases h
def okOp (N:Nat) (o:OpV):Prop:=okId o∧wfI o.cl∧wfI o.arg∧o.key.length≤4*N
theorem zFH {ms:List Mem} {N:Nat} (h:∀ m∈ms,zhZ N m) (nm:List UInt8): -9223372036854775808≤zqd ms nm∧zqd ms nm≤9223372036854775807:=by
 unfold zqd
 cases hf:z8R ms nm with
 | none=>exact ⟨by decide,by decide⟩
 | some m=>exact (h m (z0e hf)).2
theorem zpR {ms:List Mem} {N:Nat} (h:∀ m∈ms,m.2.2.2.length≤4*N) (nm:List UInt8):(zbh ms nm).length≤4*N:=by
 unfold zbh
 cases hf:z8R ms nm with
 | none=>exact Nat.zero_le _
 | some m=>exact h m (z0e hf)
theorem zKi {model:List UInt8} {ops ops':List OpV} {s:ByteArray} {line r:Int} {N:Nat} (hs:s.size≤N) (ho:∀ o∈ops,okOp N o) (h:addP model ops s line=(r,some ops')):∀ o∈ops',okOp N o:=by
 unfold addP at h
 split at h
 · injection h with _ h;cases h
 · rename_i ms hm
   have hg:=zau hm
   have ht:∀ m∈ms,m.2.2.2.length≤4*N:=fun m hm'=>Nat.le_trans (znL hm m hm') (by omega)
   split at h
   · split at h
     · injection h with _ h
       unfold zRl at h
       dsimp only at h
       split at h
       · cases h
       · split at h
         · split at h
           · cases h
           · split at h
             · cases h
             · simp at h
               subst h
               intro o hx
               rcases List.mem_append.1 hx with hx | hx
               · exact ho o hx
               · rw [List.mem_singleton] at hx
                 subst hx
                 exact ⟨zFH hg _,zFH hg _,zFH hg _,zpR ht _⟩
         · cases h
     · split at h
       · unfold retP at h
         split at h
         · injection h with _ h;cases h
         · split at h
           · injection h with _ h;cases h
           · rename_i i _ o he
             split at h
             · injection h with _ h;cases h
             · split at h
               · injection h with _ h
                 injection h with h
                 subst h
                 intro x hx
                 rcases List.mem_or_eq_of_mem_set hx with hx | hx
                 · exact ho x hx
                 · subst hx
                   exact ho o (List.mem_of_getElem? he)
               · injection h with _ h;cases h
       · injection h with _ h;cases h
   · injection h with _ h;cases h
theorem zDd (t s:List UInt8):(Lib.cut t s).1.length≤t.length:=by
 unfold Lib.cut
 split <;> simp <;> omega
theorem zo5 (t s:List UInt8):(Lib.cut t s).2.1.length≤t.length:=by
 unfold Lib.cut
 split <;> simp <;> omega
theorem zUe (model:List UInt8) (N:Nat):∀ (f:Nat) (ops:List OpV) (t:List UInt8) (k:Nat) (res:List OpV),t.length≤N→(∀ o∈ops,okOp N o)→zIn model f ops t k=.inl res→∀ o∈res,okOp N o:=by
 intro f
 induction f with
 | zero=>intro ops t k res _ _ h;simp [zIn] at h
 | succ f ih=>
   intro ops t k res ht ho h
   unfold zIn at h
   split at h
   · injection h with h;subst h;exact ho
   · split at h
     · cases h
     · split at h
       · cases h
       · rename_i r ops' he
         refine ih ops' _ _ res (Nat.le_trans (zo5 _ _) ht) (zKi ?_ ho he) h
         show (Lib.cut t [10]).1.toArray.size≤N
         rw [List.size_toArray]
         exact Nat.le_trans (zDd _ _) ht
theorem z7a {model t:List UInt8} {ops:List OpV} (h:z9w model t=.inl ops):∀ o∈ops,okOp t.length o:=zUe model t.length 129 [] t 0 ops (Nat.le_refl _) (by simp) h
theorem zRC (a:Option Addr) (c:Nat) (ops:List OpV) (b:Int) (w:World) (hr:OAt w a ops) (hb: -9223372036854775808≤b∧b≤1000000) (hl:ops.length≤128) (ho:∀ o∈ops,wfI o.arg∧okId o) (hp:Pow w) (hG:Glob w):
 Calls Tryz.prog 9 #[.string ⟨#[113,117,101,117,101]⟩,.slice a ops.length c,.int .i64 b] w fun e w'=>∃ v,Judged (fun p b r=>Found quDo (ordO p) [] b r) ([([45],ops)]) b [] v∧e=.returned (.string ⟨(say v).toArray⟩)∧Below w.heap.size w w':=by
 have hw:=zjc a c ops w hr
 have HJ:=Hid.mk' (fun w' (h1:PAt w' (some ⟨w.heap.size,0,none⟩) [([45],ops)]) (h2:Pow w') (h3:Glob w')=>zQY (some ⟨w.heap.size,0,none⟩) 1 [([45],ops)] b w' h1 hb (by intro q hq;rw [List.mem_singleton] at hq;subst hq;exact ⟨hl,by simp,ho⟩) (by simpa [sumL] using hl) (by simp) h2 h3)
 have HP:=Hid.mk' hp
 have HG:=Hid.mk' hG
 clear hr ho hp hG
 go_enter Tryz.func9,Tryz.ntmps9
 go_wp2_with (go_at_call 22;refine hw.mono ?_;rintro e w2 ⟨rfl,h1,h2⟩;have h3:=HJ.out w2 h1 (HP.out.stays h2) (HG.out.below (h2.mono HG.out.errs.lt));have HB:=Hid.mk' h2;clear h1 h2)
 refine h3.mono ?_
 rintro e w3 ⟨v,hv,rfl,hb3⟩
 have HV:=Hid.mk' (And.intro hv hb3)
 clear hv hb3 h3
 go_wp2
 go_ret
 exact ⟨v,HV.out.1,rfl,HB.out.trans (HV.out.2.mono HB.out.size)⟩
theorem zbZp (a:Option Addr) (c:Nat) (ops:List OpV) (b:Int) (w:World) (hr:OAt w a ops) (hb: -9223372036854775808≤b∧b≤1000000) (hl:ops.length≤128) (ho:∀ o∈ops,wfI o.cl∧okId o) (hp:Pow w):
 Calls Tryz.prog 9 #[.string ⟨#[108,111,99,107]⟩,.slice a ops.length c,.int .i64 b] w fun e w'=>∃ v,Judged (fun p b r=>Found lkDo (ordO p) (false,0) b r) ([([45],ops)]) b [] v∧e=.returned (.string ⟨(say v).toArray⟩)∧Below w.heap.size w w':=by
 have hw:=zjc a c ops w hr
 have HJ:=Hid.mk' (fun w' (h1:PAt w' (some ⟨w.heap.size,0,none⟩) [([45],ops)]) (h2:Pow w')=>zvN (some ⟨w.heap.size,0,none⟩) 1 [([45],ops)] b w' h1 hb (by intro q hq;rw [List.mem_singleton] at hq;subst hq;exact ⟨hl,by simp,ho⟩) (by simpa [sumL] using hl) (by simp) h2)
 have HP:=Hid.mk' hp
 clear hr ho hp
 go_enter Tryz.func9,Tryz.ntmps9
 go_wp2_with (go_at_call 22;refine hw.mono ?_;rintro e w2 ⟨rfl,h1,h2⟩;have h3:=HJ.out w2 h1 (HP.out.stays h2);have HB:=Hid.mk' h2;clear h1 h2)
 refine h3.mono ?_
 rintro e w3 ⟨v,hv,rfl,hb3⟩
 have HV:=Hid.mk' (And.intro hv hb3)
 clear hv hb3 h3
 go_wp2
 go_ret
 exact ⟨v,HV.out.1,rfl,HB.out.trans (HV.out.2.mono HB.out.size)⟩
def zNr (model:List UInt8) (ops:List OpV) (b:Int) (v:Nat×List UInt8×List (List OpV)):Prop:=
 (model=sReg∧Judged (fun p b r=>Found zCI (ordO p) 0 b r) [([45],ops)] b [] v)∨(model=sKv∧Judged (fun p b r=>Found stDo (ordO p) (false,0) b r) (zWP ops) b [] v)∨
 (model=zsK∧Judged (fun p b r=>Found quDo (ordO p) [] b r) [([45],ops)] b [] v)∨(model=sSet∧Judged (fun p b r=>Found zqY (ordO p) false b r) (zWP ops) b [] v)∨
 (model=zyy∧Judged (fun p b r=>Found lkDo (ordO p) (false,0) b r) [([45],ops)] b [] v)
theorem z4j (model:List UInt8) (ops:List OpV) (s:ByteArray) (line:Int):0≤(addP model ops s line).1∧(addP model ops s line).1≤8:=by
 unfold addP
 split
 · decide
 · split
   · split
     · dsimp only
       unfold zRl
       dsimp only
       split
       · decide
       · split
         · split
           · decide
           · split
             · decide
             · dsimp only;decide
         · decide
     · split
       · unfold retP
         split
         · decide
         · split
           · decide
           · split
             · decide
             · split
               · dsimp only;decide
               · decide
       · decide
   · decide
theorem zib (model:List UInt8):∀ (f:Nat) (ops:List OpV) (t:List UInt8) (k:Nat) (l r:Int),zIn model f ops t k=.inr (l,r)→0≤l∧l≤(k:Int)+f∧1≤r∧r≤8:=by
 intro f
 induction f with
 | zero=>
   intro ops t k l r h
   simp [zIn] at h
   omega
 | succ f ih=>
   intro ops t k l r h
   unfold zIn at h
   split at h
   · cases h
   · split at h
     · injection h with h;injection h with h1 h2;omega
     · have ha:=z4j model ops ⟨(Lib.cut t [10]).1.toArray⟩ ((k:Int)+1)
       split at h
       · rename_i r' he
         have hk:=zIME model ops ⟨(Lib.cut t [10]).1.toArray⟩ ((k:Int)+1)
         rw [he] at ha hk
         injection h with h;injection h with h1 h2
         dsimp only at ha hk
         rcases hk with ⟨_,h3⟩ | ⟨h3,_⟩
         · cases h3
         · omega
       · have:=ih _ _ _ _ _ h
         omega
theorem zAR {model t:List UInt8} {l r:Int} (h:z9w model t=.inr (l,r)):0≤l∧l≤129∧1≤r∧r≤8:=by
 have:=zib model 129 [] t 0 l r h
 omega
def zM3 (model:List UInt8):Prop:=∀ (a:Option Addr) (c:Nat) (ops:List OpV) (b:Int) (w:World),zOI model opTab=true→OAt w a ops→ -9223372036854775808≤b∧b≤1000000→ops.length≤128→(∀ o∈ops,okOp 2000000 o)→Pow w→Glob w→
    Calls Tryz.prog 9 #[.string ⟨model.toArray⟩,.slice a ops.length c,.int .i64 b] w fun e w'=>∃ v,zNr model ops b v∧e=.returned (.string ⟨(say v).toArray⟩)∧Below w.heap.size w w'
theorem zgh (model:List UInt8) (hm:model=sReg∨model=zsK∨model=zyy):zM3 model:=by
 intro a c ops b w _ hr hb hl ho hp hG
 rcases hm with rfl | rfl | rfl
 · refine (zOm a c ops b w hr hb hl (fun o h=>⟨(ho o h).2.2.1,(ho o h).1⟩) hp).mono ?_
   rintro e w' ⟨v,h1,h2⟩
   exact ⟨v,.inl ⟨rfl,h1⟩,h2⟩
 · refine (zRC a c ops b w hr hb hl (fun o h=>⟨(ho o h).2.2.1,(ho o h).1⟩) hp hG).mono ?_
   rintro e w' ⟨v,h1,h2⟩
   exact ⟨v,.inr (.inr (.inl ⟨rfl,h1⟩)),h2⟩
 · refine (zbZp a c ops b w hr hb hl (fun o h=>⟨(ho o h).2.1,(ho o h).1⟩) hp).mono ?_
   rintro e w' ⟨v,h1,h2⟩
   exact ⟨v,.inr (.inr (.inr (.inr ⟨rfl,h1⟩))),h2⟩
def zcY:List UInt8:=[78,79,45,77,79,68,69,76,10]
def sRej (l r:Int):List UInt8:=[82,69,74,69,67,84,69,68,45,73,78,80,85,84,32,108,105,110,101,61]++Lib.itoa l++[32,114,101,97,115,111,110,61]++Lib.itoa r++[10]
def zkp (model t:List UInt8) (b:Int) (out:List UInt8):Prop:=
 (zOI model opTab=false∧out=zcY)∨(zOI model opTab=true∧((∃ l r,z9w model t=.inr (l,r)∧r≠0∧out=sRej l r)∨∃ ops v,z9w model t=.inl ops∧zNr model ops (min b 1000000) v∧out=say v))
theorem z5C (n:Int) (h0: -9223372036854775808≤n) (h1:n≤9223372036854775807) (w:World) (hp:Pow w):
 Calls Tryz.prog 8 #[.int .i64 n] w fun e w'=>e=.returned (.string ⟨(Lib.itoa n).toArray⟩)∧Below w.heap.size w w':=by
 refine (Tryz.strconv_Itoa n h0 h1 w hp).mono ?_
 rintro e w' ⟨rfl,k,os,rfl⟩
 exact ⟨rfl,Lib.below_grow _ _ (Nat.le_refl _) _ _⟩
theorem rej_ba (l r:Int):(⟨#[82,69,74,69,67,84,69,68,45,73,78,80,85,84,32,108,105,110,101,61]⟩:ByteArray)++⟨(Lib.itoa l).toArray⟩++⟨#[32,114,101,97,115,111,110,61]⟩++⟨(Lib.itoa r).toArray⟩++⟨#[10]⟩=⟨(sRej l r).toArray⟩:=by
 apply ByteArray.ext
 simp [sRej]
theorem zm7 (t model:List UInt8) (b:Int) (w:World) (hg:Glob w) (hp:Pow w) (ht:t.length≤2000000) (hb: -9223372036854775808≤b∧b≤9223372036854775807) (hJ:zM3 model):
 Calls Tryz.prog 5 #[.string ⟨t.toArray⟩,.string ⟨model.toArray⟩,.int .i64 b] w fun e w'=>∃ out,zkp model t b out∧e=.returned (.string ⟨out.toArray⟩)∧Below w.heap.size w w':=by
 have hrd:=zjT ⟨t.toArray⟩ ⟨model.toArray⟩ w hg (by show t.toArray.size≤_;rw [List.size_toArray];exact ht)
 have HG:=Hid.mk' (And.intro hg hp)
 clear hg hp
 go_enter Tryz.func5,Tryz.ntmps5
 go_wp2_with fail
 refine hrd.mono ?_
 rintro e w1 ⟨hb1,⟨hkn,rfl⟩ | ⟨hkn,⟨ops,v,hrp,hlo,hown,rfl⟩ | ⟨l,r,hrp,rfl⟩⟩⟩
 · go_wp2
   go_ret
   exact ⟨zcY,.inl ⟨hkn,rfl⟩,rfl,hb1⟩
 · obtain ⟨va,vc,rfl⟩:=zIW hown
   have hok:=z7a hrp
   have hj:=hJ va vc ops (min b 1000000) w1 hkn (z6a hown) ⟨by omega,by omega⟩ hlo (fun o ho=>by have h:=hok o ho;exact ⟨h.1,h.2.1,h.2.2.1,by have:=h.2.2.2;omega⟩) (HG.out.2.stays hb1) (HG.out.1.below (hb1.mono HG.out.1.errs.lt))
   have HX:=Hid.mk' (And.intro hrp (And.intro hkn hb1))
   clear hrp hkn hb1 hok hown
   generalize hmb:min b 1000000=mb at hj
   have HMB:=Hid.mk' hmb
   go_wp2_with fail
   refine hj.mono ?_
   rintro e w2 ⟨v,hv,rfl,hb2⟩
   have HV:=Hid.mk' (And.intro hv hb2)
   clear hv hb2
   go_wp2
   go_ret
   refine ⟨say v,.inr ⟨HX.out.2.1,.inr ⟨ops,v,HX.out.1,by rw [HMB.out];exact HV.out.1,rfl⟩⟩,rfl,HX.out.2.2.trans (HV.out.2.mono HX.out.2.2.size)⟩
 · have hlr:=zAR hrp
   have hr0:(r != 0)=true:=by rw [bne_iff_ne];omega
   have hrn:r≠0:=by omega
   have h1:=z5C l (by omega) (by omega) w1 (HG.out.2.stays hb1)
   have HX:=Hid.mk' (And.intro hrp (And.intro hkn (And.intro hb1 hrn)))
   have hll:=Lib.itoa_length_le l (by omega) (by omega)
   have hrl:=Lib.itoa_length_le r (by omega) (by omega)
   clear hrp hkn hrn
   go_wp2_with (first
    | (go_at_call 8;refine h1.mono ?_;rintro e w2 ⟨rfl,hb2⟩;have h2:=z5C r (by omega) (by omega) w2 (HG.out.2.stays (hb1.trans (hb2.mono hb1.size)));have HB2:=Hid.mk' (hb1.trans (hb2.mono hb1.size));clear h1 hb2)
    | (go_at_call 8;refine h2.mono ?_;rintro e w3 ⟨rfl,hb3⟩;have HB3:=Hid.mk' (HB2.out.trans (hb3.mono HB2.out.size));clear h2 hb3))
   go_ret
   exact ⟨sRej l r,.inr ⟨HX.out.2.1,.inl ⟨l,r,HX.out.1,HX.out.2.2.2,rfl⟩⟩,congrArg (fun x=>Ending.returned (Value.string x)) (rej_ba l r),HB3.out⟩
end Go.Proofs.YtbbkihekjdffpaaGreatDoor.srch
