/- Several texts in one. -/
import Derived.Test.YtbbkihekjdffpaaGreatDoorHistX
set_option maxHeartbeats 4000000
set_option maxRecDepth 100000
namespace Go.Proofs.YtbbkihekjdffpaaGreatDoor
open Go.RowKit Go.Maps

def addP (model:List UInt8) (ops:List OpV) (s:ByteArray) (line:Int):Int×Option (List OpV):=
 match zIo s with
 | none=>(2,none)
 | some ms=>if za6 ms then (if z5q ms callSlots then ((zRl model ops ms line).1,(zRl model ops ms line).2.map (fun o=>ops++[o])) else if z5q ms retSlots then retP model ops ms line else (3,none)) else (3,none)

theorem z0e {ms:List Mem} {nm:List UInt8} {m:Mem} (h:z8R ms nm=some m):m∈ms:=List.mem_of_find?_eq_some h
theorem zGW {ms:List Mem} {N:Nat} (h:∀ m∈ms,zhZ N m) (nm:List UInt8):(Lit.int .i64 (zqd ms nm)).wf=true:=by
 have: -9223372036854775808≤zqd ms nm∧zqd ms nm≤9223372036854775807:=by
  unfold zqd
  cases hf:z8R ms nm with
  | none=>exact ⟨by decide,by decide⟩
  | some m=>exact (h m (z0e hf)).2
 exact WalkArith.wf_i64 (by omega)
theorem zzW {ms:List Mem} (h:z5q ms retSlots=true):zoz ms sVal=0∨zoz ms sVal=1∨zoz ms sVal=2:=by
 unfold z5q at h
 unfold retSlots at h
 rw [zmy] at h
 cases h1:z8R ms [114,101,116] with
 | none=>simp [h1] at h
 | some m1=>
   simp only [h1] at h
   by_cases hk:([1]:List Int).contains m1.2.1=true
   · rw [if_pos hk,zmy] at h
     cases h2:z8R ms [118,97,108] with
     | none=>simp [h2] at h
     | some m2=>
       simp only [h2] at h
       by_cases hk2:([0,1,2]:List Int).contains m2.2.1=true
       · have e:zoz ms sVal=m2.2.1:=by unfold zoz sVal;rw [h2];rfl
         rw [e]
         simpa using hk2
       · rw [if_neg hk2] at h;cases h
   · rw [if_neg hk] at h;cases h

theorem add_any (w:World) (rc b1 b2 base n L:Nat) (v:Value) (model:ByteArray) (ops:List OpV) (s:ByteArray) (line:Int)
 (hr:Rec w rc b1 b2 base n v model ops) (ho:Ops w) (he:Errs w) (hu:Utf w) (hL:L≤rc∧L≤b1∧L≤b2) (hN:10≤L) (hbs:base≤w.heap.size) (hn9:n≤900) (hline:line≠0) (hs:s.size≤2000000):
 Calls Tryz.prog 42 #[.pointer (some ⟨rc,0,none⟩),.string s,.int .i64 line] w fun e w'=>
  e=.returned (.int .i64 (addP model.data.toList ops s line).1)∧Below L w w'∧(∀ o,(addP model.data.toList ops s line).2=some o→∃ v',Rec w' rc b1 b2 base (n+1) v' model o):=by
 have hrcw:=zBq hr.blk
 have hb1w:b1 < w.heap.size:=by obtain ⟨_,h⟩:=hr.ids;exact h.lt
 have hb2w:b2 < w.heap.size:=by obtain ⟨_,_,h,_⟩:=hr.opn;exact h.lt
 have hng:=he.lt
 have hLw:L≤w.heap.size:=by omega
 go_enter Tryz.func42,Tryz.ntmps42
 go_wp2_with fail
 refine (zVM s _ hs he hu).mono ?_
 rintro e w1 ⟨hb1,⟨ms,v1,hl,hml,hown,rfl⟩ | ⟨hl,rfl⟩⟩
 · have hgood:=zau hl
   have HL:Hid (addP model.data.toList ops s line=if za6 ms then (if z5q ms callSlots then ((zRl model.data.toList ops ms line).1,(zRl model.data.toList ops ms line).2.map (fun o=>ops++[o])) else if z5q ms retSlots then retP model.data.toList ops ms line else (3,none)) else (3,none)):=by
    unfold addP;rw [hl];exact rfl
   have hr1:=hr.below hb1
   clear hl hr
   go_wp2_with fail
   refine (zfv w1 _ v1 ms hown (by omega) (fun m hm=>by have:=(hgood m hm).1;omega)).mono ?_
   rintro e w2 ⟨hb2,⟨hnm,hmap,rfl⟩ | ⟨hnm,rfl⟩⟩
   · have hr2:=hr1.below hb2
     have HL2:Hid (addP model.data.toList ops s line=if z5q ms callSlots then ((zRl model.data.toList ops ms line).1,(zRl model.data.toList ops ms line).2.map (fun o=>ops++[o])) else if z5q ms retSlots then retP model.data.toList ops ms line else (3,none)):=by
      rw [HL.out,if_pos hnm];exact rfl
     have z1:=hb1.size
     have z2:=hb2.size
     have hblm:w1.heap.size < w2.heap.size:=hmap.lt
     have hbl2:Below w.heap.size w w2:=hb1.trans (hb2.mono z1)
     clear HL hnm hown hr1
     go_wp2_with fail
     refine (zcO w2).mono ?_
     rintro e w3 ⟨g3,rfl,hg3,hg3',hb3,hsh3⟩
     have hmap3:=hmap.below hb3
     have hr3:=hr2.below hb3
     have z3:=hb3.size
     go_wp2_with fail
     refine (zBH w3 w1.heap.size ms.length g3 6 ms callSlots hmap3 hg3' hsh3 (by decide) (by omega) (by decide)).mono ?_
     rintro e w4 ⟨rfl,hb4⟩
     have hmap4:=hmap3.below hb4
     have hr4:=hr3.below hb4
     have z4:=hb4.size
     have hbl4:Below w.heap.size w w4:=(hbl2.trans (hb3.mono (by omega))).trans (hb4.mono (by omega))
     clear hmap hr2 hmap3 hr3 hsh3 hb3 hb4
     cases hf:z5q ms callSlots with
     | true=>
       have HL3:Hid (addP model.data.toList ops s line=((zRl model.data.toList ops ms line).1,(zRl model.data.toList ops ms line).2.map (fun o=>ops++[o]))):=by rw [HL2.out,if_pos hf];exact rfl
       clear hf HL2
       go_wp2_with fail
       refine (zEg w4 rc b1 b2 base n w1.heap.size ms.length ms.length L v model ops ms line hr4 hmap4 (ho.below (hbl4.mono (by omega))) (by omega) hL (zGW hgood) (by omega) hn9).mono ?_
       rintro e w5 ⟨rfl,hb5,hrec⟩
       go_wp2
       go_ret
       refine ⟨by rw [HL3.out];rfl,(hbl4.mono hLw).trans hb5,?_⟩
       intro o ho'
       rw [HL3.out] at ho'
       obtain ⟨x,hx,rfl⟩:=Option.map_eq_some_iff.1 ho'
       exact hrec x hx
     | false=>
       have HL3:Hid (addP model.data.toList ops s line=if z5q ms retSlots then retP model.data.toList ops ms line else (3,none)):=by rw [HL2.out,hf];exact rfl
       clear hf HL2
       go_wp2_with fail
       refine (zRx w4).mono ?_
       rintro e w5 ⟨g5,rfl,hg5,hg5',hb5,hsh5⟩
       have hmap5:=hmap4.below hb5
       have hr5:=hr4.below hb5
       have z5:=hb5.size
       go_wp2_with fail
       refine (zBH w5 w1.heap.size ms.length g5 2 ms retSlots hmap5 hg5' hsh5 (by decide) (by omega) (by decide)).mono ?_
       rintro e w6 ⟨rfl,hb6⟩
       have hmap6:=hmap5.below hb6
       have hr6:=hr5.below hb6
       have z6:=hb6.size
       have hbl6:Below w.heap.size w w6:=(hbl4.trans (hb5.mono (by omega))).trans (hb6.mono (by omega))
       clear hmap4 hr4 hmap5 hr5 hsh5 hb5 hb6 hbl4
       cases hf:z5q ms retSlots with
       | true=>
         have HL4:Hid (addP model.data.toList ops s line=retP model.data.toList ops ms line):=by rw [HL3.out,if_pos hf];exact rfl
         have hkd:=zzW hf
         clear hf HL3
         go_wp2_with fail
         refine (zpC w6 rc b1 b2 base n w1.heap.size ms.length ms.length L v model ops ms line hr6 hmap6 (ho.below (hbl6.mono (by omega))) (by omega) hL (zGW hgood) (by omega) hn9 hline hkd (by omega)).mono ?_
         rintro e w7 ⟨rfl,hb7,hrec⟩
         go_wp2
         go_ret
         refine ⟨by rw [HL4.out];rfl,(hbl6.mono hLw).trans hb7,?_⟩
         intro o ho'
         rw [HL4.out] at ho'
         exact ⟨_,hrec o ho'⟩
       | false=>
         have HL4:Hid (addP model.data.toList ops s line=(3,none)):=by rw [HL3.out,hf];exact rfl
         clear hf HL3
         go_wp2
         go_ret
         exact ⟨by rw [HL4.out];rfl,hbl6.mono hLw,by rw [HL4.out];intro o h;cases h⟩
   · have HL2:Hid (addP model.data.toList ops s line=(3,none)):=by rw [HL.out,hnm];exact rfl
     clear HL hnm hown hr1
     have z1:=hb1.size
     go_wp2
     go_ret
     exact ⟨by rw [HL2.out];rfl,(hb1.mono hLw).trans (hb2.mono (by omega)),by rw [HL2.out];intro o h;cases h⟩
 · have HL:Hid (addP model.data.toList ops s line=(2,none)):=by unfold addP;rw [hl];exact rfl
   clear hl hr
   go_wp2
   go_ret
   exact ⟨by rw [HL.out];rfl,hb1.mono hLw,by rw [HL.out];intro o h;cases h⟩

theorem z7C (model:List UInt8) (ops:List OpV) (ms:List Mem) (line:Int):((zRl model ops ms line).1=0∧(zRl model ops ms line).2.isSome)∨((zRl model ops ms line).1≠0∧(zRl model ops ms line).2=none):=by
 unfold zRl
 simp only
 split
 · right;exact ⟨by decide,rfl⟩
 · split
   · split
     · right;exact ⟨by decide,rfl⟩
     · split
       · right;exact ⟨by decide,rfl⟩
       · left;exact ⟨rfl,rfl⟩
   · right;exact ⟨by decide,rfl⟩
theorem zHh (model:List UInt8) (ops:List OpV) (ms:List Mem) (line:Int):((retP model ops ms line).1=0∧(retP model ops ms line).2.isSome)∨((retP model ops ms line).1≠0∧(retP model ops ms line).2=none):=by
 unfold retP
 split
 · right;exact ⟨by decide,rfl⟩
 · split
   · right;exact ⟨by decide,rfl⟩
   · split
     · right;exact ⟨by decide,rfl⟩
     · split
       · left;exact ⟨rfl,rfl⟩
       · right;exact ⟨by decide,rfl⟩
theorem zIME (model:List UInt8) (ops:List OpV) (s:ByteArray) (line:Int):((addP model ops s line).1=0∧(addP model ops s line).2.isSome)∨((addP model ops s line).1≠0∧(addP model ops s line).2=none):=by
 unfold addP
 split
 · right;exact ⟨by decide,rfl⟩
 · rename_i ms _
   split
   · split
     · rcases z7C model ops ms line with ⟨h1,h2⟩ | ⟨h1,h2⟩
       · left;exact ⟨h1,by simpa using h2⟩
       · right;exact ⟨h1,by simp [h2]⟩
     · split
       · exact zHh model ops ms line
       · right;exact ⟨by decide,rfl⟩
   · right;exact ⟨by decide,rfl⟩

def zIn (model:List UInt8):Nat→List OpV→List UInt8→Nat→List OpV ⊕ (Int×Int)
 | 0,_,_,k=>.inr ((k:Int),1)
 | f+1,ops,t,k=>if t=[] then .inl ops else if f=0 then .inr (((k:Int)+1),1) else
   match addP model ops ⟨(Lib.cut t [10]).1.toArray⟩ ((k:Int)+1) with
   | (r,none)=>.inr (((k:Int)+1),r)
   | (_,some ops')=>zIn model f ops' (Lib.cut t [10]).2.1 (k+1)
def z9w (model t:List UInt8):List OpV ⊕ (Int×Int):=zIn model 129 [] t 0

def zys (model t:List UInt8) (w:World) (e:Ending) (w':World):Prop:=
 Below w.heap.size w w'∧((∃ ops v,z9w model t=.inl ops∧ops.length≤128∧w'.ownsRow w.heap.size 74 10 v ops.length (opsRow ops)∧e=.returned (.tuple #[v,.int .i64 0,.int .i64 0]))∨
  (∃ l r,z9w model t=.inr (l,r)∧e=.returned (.tuple #[.slice none 0 0,.int .i64 l,.int .i64 r])))

structure Glob (w:World):Prop where
 ops:Ops w
 errs:Errs w
 utf:Utf w
 mx:∃ m,w.cell? ⟨3,0,none⟩=some (.int .i64 m)
theorem Glob.below {w w':World} (h:Glob w) (k:Below 10 w w'):Glob w':=by
 obtain ⟨m,hm⟩:=h.mx
 exact ⟨h.ops.below k,h.errs.below k,h.utf.below k,m,(k.cell (p:=⟨3,0,none⟩) (by show 3 < 10;omega)).trans hm⟩

theorem zug:∀ x,(none:Option Value)=idFn [] x:=by
 intro x
 unfold idFn
 split <;> rfl

theorem zEY (t:List UInt8):(Lib.cut t [10]).1.length≤t.length∧(Lib.cut t [10]).2.1.length≤t.length:=by
 unfold Lib.cut
 split
 · constructor
   · simp;omega
   · simp
 · exact ⟨Nat.le_refl _,by simp⟩

theorem zyp (t model:ByteArray) (w:World) (hg:Glob w) (ht:t.size≤2000000):
 Calls Tryz.prog 19 #[.string t,.string model] w fun e w'=>zys model.data.toList t.data.toList w e w':=by
 have hmm:=@run_makeMap Tryz.prog
 have hng:=hg.errs.lt
 go_enter Tryz.func19,Tryz.ntmps19
 go_wp2
 go_loopw [0,8] (fun tx nu wr=>∃ (k f n:Nat) (tt:ByteArray) (ops:List OpV) (v:Value),tx=.string tt∧nu=.int .i64 ((k:Int)+1)∧k+f=129∧1≤f∧n≤k∧tt.size≤2000000∧zIn model.data.toList f ops tt.data.toList k=z9w model.data.toList t.data.toList∧
  Rec wr (w.heap.size+2) w.heap.size (w.heap.size+1) (w.heap.size+3) n v model ops∧Below w.heap.size w wr∧w.heap.size+3≤wr.heap.size) (fun _ nu _=>130 - (intOf nu).toNat)
 case atStart=>
  refine ⟨0,129,0,t,[],.slice none 0 0,rfl,by go_num,by omega,by omega,by omega,ht,rfl,?_,((((Below.refl _ _).alloc (Nat.le_refl _) _).alloc (by simp) _).alloc (by simp;omega) _),by simp⟩
  have m1:MapFn (((w.alloc (.map #[] 0)).alloc (.map #[] 0)).alloc (.cells #[.string model,.slice none 0 0,.map (some w.heap.size),.map (some (w.heap.size+1))] 94)) 2 w.heap.size 0 0 (fun _=>none):=((MapFn.made w _).alloc _).alloc _
  have m2:MapFn (((w.alloc (.map #[] 0)).alloc (.map #[] 0)).alloc (.cells #[.string model,.slice none 0 0,.map (some w.heap.size),.map (some (w.heap.size+1))] 94)) 2 (w.heap.size+1) 0 0 (fun _=>none):=by
   have:=(MapFn.made (w.alloc (.map #[] 0)) 2).alloc (.cells #[.string model,.slice none 0 0,.map (some w.heap.size),.map (some (w.heap.size+1))] 94)
   simpa using this
  exact ⟨ziF _ _ _ (by simp),World.ownsRow_nil _ _ _ _,⟨0,m1.congr zug⟩,⟨0,_,m2,fun c=>rfl⟩,by omega,by omega,by omega,by omega,by omega,by omega,by simp,by simp⟩
 case round=>
  obtain ⟨k,f,n,tt,ops,v,rfl,rfl,hkf,hf1,hnk,hts,HR,hrec,hbl,hsz⟩:=hrel
  have hR:Hid (zIn model.data.toList f ops tt.data.toList k=z9w model.data.toList t.data.toList):=HR
  clear HR
  obtain ⟨f,rfl⟩:∃ f',f=f'+1:=⟨f - 1,by omega⟩
  cases hemp:tt.toList.isEmpty with
  | true=>
    have hnil:tt.data.toList=[]:=by rw [←zYW];exact List.isEmpty_iff.1 hemp
    have hX:Hid (z9w model.data.toList t.data.toList=.inl ops):=by rw [←hR.out,zIn,if_pos hnil];exact rfl
    have c1:wr.cell? ⟨w.heap.size+2,1,none⟩=some v:=by rw [zBk hrec.blk];rfl
    have hown:=hrec.own
    have hfew:=hrec.few
    obtain ⟨va,vc,rfl⟩:=zIW hown
    clear hR hnil hrec
    go_wp2
    go_ret3
    refine ⟨hbl,Or.inl ⟨ops,_,hX.out,by omega,⟨hown.1,?_⟩,rfl⟩⟩
    rcases hown.2 with h | ⟨g,cap,cur,h1,hbg,r⟩
    · exact .inl h
    · exact .inr ⟨g,cap,cur,h1,by omega,r⟩
  | false=>
    have hne:¬ tt.data.toList=[]:=by rw [←zYW];intro h;rw [h] at hemp;cases hemp
    by_cases hk:k < 128
    · obtain ⟨f,rfl⟩:∃ f',f=f'+1:=⟨f - 1,by omega⟩
      have hk':(k:Int)+1≤128:=by omega
      have hS:Hid (z9w model.data.toList t.data.toList=(match addP model.data.toList ops ⟨(Lib.cut tt.data.toList [10]).1.toArray⟩ ((k:Int)+1) with
       | (r,none)=>.inr (((k:Int)+1),r)
       | (_,some ops')=>zIn model.data.toList (f+1) ops' (Lib.cut tt.data.toList [10]).2.1 (k+1))):=by
       rw [←hR.out,zIn,if_neg hne,if_neg (by omega)];exact rfl
      have hcl:=zEY tt.data.toList
      have htl:tt.data.toList.length=tt.size:=by simp
      have hgr:Glob wr:=hg.below (hbl.mono (by omega))
      obtain ⟨mx,hmx⟩:=hgr.mx
      clear hR hne hmm
      go_wp2_with fail
      refine (Tryz.strings_Cut tt ⟨#[10]⟩ mx _ (by omega) hmx).mono ?_
      rw [show ((⟨#[10]⟩:ByteArray)).data.toList=[10] from rfl]
      rintro e w1 ⟨rfl,dn,rfl⟩
      generalize Lib.cut tt.data.toList [10]=ct at*
      obtain ⟨l1,l2,l3⟩:=ct
      simp only at hcl hS ⊢
      have hrec1:Rec (wr.drewN dn) (w.heap.size+2) w.heap.size (w.heap.size+1) (w.heap.size+3) n v model ops:=hrec.below (below_drewN (Below.refl _ _) dn)
      have hg1:Glob (wr.drewN dn):=hgr.below (below_drewN (Below.refl _ _) dn)
      go_wp2_with fail
      refine (add_any (wr.drewN dn) (w.heap.size+2) w.heap.size (w.heap.size+1) (w.heap.size+3) n w.heap.size v model ops ⟨l1.toArray⟩ ((k:Int)+1) hrec1 hg1.ops hg1.errs hg1.utf (by omega) hng (by exact hsz) (by omega) (by omega) (by show l1.toArray.size≤_;simp;omega)).mono ?_
      rintro e w2 ⟨rfl,hb2,hrec2⟩
      have hbl2:Below w.heap.size w w2:=(below_drewN hbl dn).trans hb2
      have hz2:=hb2.size
      have hz3:w.heap.size+3≤w2.heap.size:=Nat.le_trans hsz hz2
      rcases zIME model.data.toList ops ⟨l1.toArray⟩ ((k:Int)+1) with ⟨h1,h2⟩ | ⟨h1,h2⟩
      · obtain ⟨ops',hops⟩:=Option.isSome_iff_exists.1 h2
        obtain ⟨v',hr'⟩:=hrec2 ops' hops
        have hS2:Hid (zIn model.data.toList (f+1) ops' l2 (k+1)=z9w model.data.toList t.data.toList):=by
         rw [hS.out]
         rw [show addP model.data.toList ops ⟨l1.toArray⟩ ((k:Int)+1)=(0,some ops') from Prod.ext h1 hops];exact rfl
        rw [h1]
        clear hS h1 h2 hops hrec2 hrec hrec1
        go_wp2
        go_roundw
        case rel=>exact ⟨k+1,f+1,n+1,⟨l2.toArray⟩,ops',v',rfl,by go_num,by omega,by omega,by omega,by show l2.toArray.size≤_;simp;omega,hS2.out,hr',hbl2,hz3⟩
        case measure=>simp [intOf];omega
      · have hX:Hid (z9w model.data.toList t.data.toList=.inr (((k:Int)+1),(addP model.data.toList ops ⟨l1.toArray⟩ ((k:Int)+1)).1)):=by
         rw [hS.out]
         rw [show addP model.data.toList ops ⟨l1.toArray⟩ ((k:Int)+1)=((addP model.data.toList ops ⟨l1.toArray⟩ ((k:Int)+1)).1,none) from Prod.ext rfl h2];exact rfl
        clear hS h2 hrec2 hrec hrec1
        generalize (addP model.data.toList ops ⟨l1.toArray⟩ ((k:Int)+1)).1=rr at*
        have hrr:(rr != 0)=true:=by simpa using h1
        go_wp2
        go_ret3
        exact ⟨hbl2,Or.inr ⟨_,_,hX.out,rfl⟩⟩
    · have hk8:k=128:=by omega
      have hf0:f=0:=by omega
      have hX:Hid (z9w model.data.toList t.data.toList=.inr (((k:Int)+1),1)):=by rw [←hR.out,zIn,if_neg hne,if_pos hf0];exact rfl
      have hk':(128:Int) < (k:Int)+1:=by omega
      clear hR hk8 hf0 hne hrec
      go_wp2
      go_ret3
      exact ⟨hbl,Or.inr ⟨_,_,hX.out,rfl⟩⟩

def zHM (model t:List UInt8) (w:World) (e:Ending) (w':World):Prop:=
 Below w.heap.size w w'∧((zOI model opTab=false∧e=.returned (.tuple #[.slice none 0 0,.int .i64 0,.int .i64 0,.int .i64 1]))∨
  (zOI model opTab=true∧((∃ ops v,z9w model t=.inl ops∧ops.length≤128∧w'.ownsRow w.heap.size 74 10 v ops.length (opsRow ops)∧e=.returned (.tuple #[v,.int .i64 0,.int .i64 0,.int .i64 0]))∨
   (∃ l r,z9w model t=.inr (l,r)∧e=.returned (.tuple #[.slice none 0 0,.int .i64 l,.int .i64 r,.int .i64 0])))))

theorem zjT (t model:ByteArray) (w:World) (hg:Glob w) (ht:t.size≤2000000):
 Calls Tryz.prog 7 #[.string t,.string model] w fun e w'=>zHM model.data.toList t.data.toList w e w':=by
 have hng:=hg.errs.lt
 go_enter Tryz.func7,Tryz.ntmps7
 go_wp2_with fail
 refine (zZL model _ hg.ops hng).mono ?_
 rintro e w1 ⟨rfl,hb1⟩
 have z1:=hb1.size
 cases hkn:zOI model.data.toList opTab with
 | false=>
   have HK:Hid (zOI model.data.toList opTab=false):=hkn
   clear hkn
   go_wp2
   refine bodyPost_ret (v:=.tuple #[.slice none 0 0,.int .i64 0,.int .i64 0,.int .i64 1]) (by simp [results,Tryz.results7,go_sem]) rfl ⟨hb1,Or.inl ⟨HK.out,rfl⟩⟩
 | true=>
   have HK:Hid (zOI model.data.toList opTab=true):=hkn
   clear hkn
   go_wp2_with fail
   refine (zyp t model _ (hg.below (hb1.mono hng)) ht).mono ?_
   rintro e w2 ⟨hb2,⟨ops,v,hr,hl,hown,rfl⟩ | ⟨l,r,hr,rfl⟩⟩
   · have HR:Hid (z9w model.data.toList t.data.toList=.inl ops):=hr
     clear hr
     go_wp2
     refine bodyPost_ret (v:=.tuple #[v,.int .i64 0,.int .i64 0,.int .i64 0]) (by simp [results,Tryz.results7,go_sem]) rfl ⟨hb1.trans (hb2.mono z1),Or.inr ⟨HK.out,Or.inl ⟨ops,v,HR.out,hl,⟨hown.1,?_⟩,rfl⟩⟩⟩
     rcases hown.2 with h | ⟨g,cap,cur,h1,hbg,r⟩
     · exact .inl h
     · exact .inr ⟨g,cap,cur,h1,by omega,r⟩
   · have HR:Hid (z9w model.data.toList t.data.toList=.inr (l,r)):=hr
     clear hr
     go_wp2
     exact bodyPost_ret (v:=.tuple #[.slice none 0 0,.int .i64 l,.int .i64 r,.int .i64 0]) (by simp [results,Tryz.results7,go_sem]) rfl ⟨hb1.trans (hb2.mono z1),Or.inr ⟨HK.out,Or.inr ⟨l,r,HR.out,rfl⟩⟩⟩
end Go.Proofs.YtbbkihekjdffpaaGreatDoor
