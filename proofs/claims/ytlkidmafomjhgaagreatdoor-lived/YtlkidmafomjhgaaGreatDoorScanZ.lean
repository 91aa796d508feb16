/- Several texts in one. -/
import Derived.Test.YtlkidmafomjhgaaGreatDoorScanY
import Derived.Maps.OwnOps
import Derived.Maps.OwnSet
namespace Go.Proofs.YtlkidmafomjhgaaGreatDoor
open Go.RowKit

def zQf:Nat→List Mem→List Nat→Option (List Mem×List Nat)
 | 0,_,_=>none
 | f+1,acc,l=>match zcL l with
   | none=>none
   | some (m,r)=>if (zEH r == 125) then some (acc++[m],r.tail) else if (zEH r == 44) then zQf f (acc++[m]) (zek r.tail) else none
def zfb (l:List Nat):Option (List Mem×List Nat):=
 if (zEH l == 123) then (if (zEH (zek l.tail) == 125) then some ([],(zek l.tail).tail) else zQf (l.length+1) [] (zek l.tail)) else none

theorem zH7 (l:List Nat):(zek l).length≤l.length:=by
 induction l with
 | nil=>simp [zek]
 | cons c t ih=>unfold zek;split <;> simp;omega
theorem z6c (l:List Nat):(zva l).length≤l.length:=by
 induction l with
 | nil=>simp [zva]
 | cons c t ih=>unfold zva;split <;> simp;omega
theorem zAt (f:Nat):∀ (acc:List UInt8) (l:List Nat) (v:List UInt8) (r:List Nat),z9u f acc l=some (v,r)→r.length < l.length:=by
 induction f with
 | zero=>intro acc l v r h;cases l <;> simp [z9u] at h
 | succ f ih=>
   intro acc l v r h
   cases l with
   | nil=>simp [z9u] at h
   | cons c t=>
     unfold z9u at h
     split at h
     · simp at h;rw [←h.2];simp
     · split at h
       · cases h
       · split at h
         · split at h
           · cases h
           · have:=ih _ _ _ _ h;simp at this ⊢;omega
         · have:=ih _ _ _ _ h;simp at this ⊢;omega
theorem zf7 {l:List Nat} {v:List UInt8} {r:List Nat} (h:zgn l=some (v,r)):r.length < l.length:=by
 cases l with
 | nil=>cases h
 | cons c t=>
   by_cases hc:((c:Int) == 34)=true
   · rw [zgn,if_pos hc] at h
     have:=zAt _ _ _ _ _ h;simp;omega
   · rw [zgn,if_neg hc] at h;cases h
theorem zg0 (l:List Nat):(zDE l).length≤l.length:=by
 unfold zDE
 have h1:∀ m:List Nat,m.length≤l.length→(if zEH m=48 then m.tail else zva m).length≤l.length:=by
  intro m hm
  split
  · simp;omega
  · exact Nat.le_trans (z6c m) hm
 split
 · exact h1 _ (by simp)
 · exact h1 _ (Nat.le_refl _)
theorem zHG {l:List Nat} {v:Int×Int×List UInt8} {r:List Nat} (h:zFD l=some (v,r)):r.length≤l.length:=by
 unfold zFD at h
 split at h
 · split at h
   · rename_i t r' ht;simp at h;have:=zf7 ht;rw [←h.2];omega
   · cases h
 · split at h
   · split at h
     · simp at h;rw [←h.2];simp
     · cases h
   · split at h
     · split at h
       · simp at h;rw [←h.2];simp
       · cases h
     · split at h
       · split at h
         · simp at h;rw [←h.2];simp
         · cases h
       · split at h
         · rename_i n r' hi
           simp at h
           unfold intP at hi
           split at hi
           · simp at hi;rw [←h.2,←hi.2];exact zg0 l
           · cases hi
         · cases h
theorem zVf {l:List Nat} {m:Mem} {r:List Nat} (h:zcL l=some (m,r)):r.length < l.length:=by
 unfold zcL at h
 split at h
 · cases h
 · rename_i nm r1 ht
   split at h
   · split at h
     · cases h
     · rename_i v r4 hv
       simp at h
       have h1:=zf7 ht
       have h2:=zHG hv
       have h3:=zH7 r4
       have h4:=zH7 (zek r1).tail
       have h5:=zH7 r1
       simp at h4
       rw [←h.2]
       omega
   · cases h

def zIS (m:Mem):List Value:=[.string ⟨m.1.toArray⟩,.int .i64 m.2.1,.int .i64 m.2.2.1,.string ⟨m.2.2.2.toArray⟩]
def zLk (l:List Mem):List Value:=l.flatMap zIS

theorem zri (w:World) (a b c d:Value) (t:TypeId):∀ j u,[a,b,c,d][j]?=some u→(w.alloc (.cells #[a,b,c,d] t)).cell? ((⟨w.heap.size,0,none⟩:Addr).add j)=some u:=by
 intro j u hj
 match j,hj with
 | 0,hj=>simp at hj;subst hj;simp [Addr.add]
 | 1,hj=>simp at hj;subst hj;simp [Addr.add]
 | 2,hj=>simp at hj;subst hj;simp [Addr.add]
 | 3,hj=>simp at hj;subst hj;simp [Addr.add]

theorem zzF {S:List Nat} {w w':World} {base:Nat} {e:TypeId} {size:Nat} {v:Value} {n:Nat} {xs:List Value} (h:w.ownsRow base e size v n xs) (k:Kept S w w') (hS:∀ x∈S,x < base):w'.ownsRow base e size v n xs:=by
 refine ⟨h.1,?_⟩
 rcases h.2 with hn | ⟨g,cap,cur,hv,hbg,hg,rest⟩
 · exact .inl hn
 · have ng:g∉S:=fun hm=>by have:=hS g hm;omega
   exact .inr ⟨g,cap,cur,hv,hbg,(k.block g (zBq hg) ng).trans hg,rest⟩

theorem zNV:(Tryz.prog.info? 218).map (fun i=>(i.zero,i.size,i.bytes))=some (some (.agg #[.string ⟨#[]⟩,.int .i64 0,.int .i64 0,.string ⟨#[]⟩]),4,48):=by kernel_rfl

def zY3 (b rb cap k:Nat) (rs:List Nat) (w:World) (e:Ending) (w':World):Prop:=
 ∃ k',Scan w' b rb cap rs k'∧Kept [b] w w'∧((∃ ms v,zfb (rs.drop k)=some (ms,rs.drop k')∧ms.length≤k'∧w'.ownsRow w.heap.size 218 4 v ms.length (zLk ms)∧e=.returned (.tuple #[v,.bool true]))∨
  (zfb (rs.drop k)=none∧e=.returned (.tuple #[.slice none 0 0,.bool false])))

theorem z7d (l:List Mem) (m:Mem):zLk (l++[m])=zLk l++zIS m:=by simp [zLk]
theorem Scan.grown {w w':World} {b rb cap k B:Nat} {rs:List Nat} {row:Option Nat} (h:Scan w b rb cap rs k) (hg:w.grownBy w' row) (hr:∀ g,row=some g→B≤g) (h1:b < B) (h2:rb < B):Scan w' b rb cap rs k:=by
 obtain ⟨c,t,f,hrow,hc⟩:=h.row
 exact ⟨by rw [hg.block b (zBq h.blk) (fun e=>by have:=hr b e.symm;omega)];exact h.blk,
  ⟨c,t,f,by rw [hg.block rb (zBq hrow) (fun e=>by have:=hr rb e.symm;omega)];exact hrow,hc⟩,h.ne,h.le,h.small,h.bd,h.room⟩
theorem Kept.grown {S:List Nat} {a w w':World} {row:Option Nat} (h:Kept S a w) (hg:w.grownBy w' row) (hr:∀ g,row=some g→a.heap.size≤g):Kept S a w':=
 ⟨hg.os.trans h.os,hg.tape.trans h.tape,hg.output.trans h.output,Nat.le_trans h.size hg.size,fun i hi hn=>
  (hg.block i (Nat.lt_of_lt_of_le hi h.size) (fun e=>by have:=hr i e.symm;omega)).trans (h.block i hi hn)⟩
theorem zYv {w:World} {base:Nat} {e:TypeId} {size:Nat} {v:Value} {n:Nat} {xs:List Value} (h:w.ownsRow base e size v n xs):∀ g,v.ownBlock=some g→base≤g:=fun g hg=>(h.lt g hg).1

set_option maxHeartbeats 2000000 in
theorem zph (b rb cap k:Nat) (rs:List Nat) (w:World) (hs:Scan w b rb cap rs k) (he:Errs w) (hb:9≤b) (hp:zEH (rs.drop k)=123):
 Calls Tryz.prog 105 #[.pointer (some ⟨b,0,none⟩)] w fun e w'=>zY3 b rb cap k rs w e w':=by
 have hbw:=hs.bLt
 have hrw:=hs.rbLt
 have heW:=he.lt
 have hlt:=znY hp (by omega)
 have HO:Hid (zfb (rs.drop k)=if (zEH (zek (rs.drop (k+1))) == 125) then some ([],(zek (rs.drop (k+1))).tail) else zQf (rs.length - k+1) [] (zek (rs.drop (k+1)))):=by
  unfold zfb;rw [hp,tail_drop,List.length_drop];exact rfl
 go_enter Tryz.func105,Tryz.ntmps105
 go_wp2_with fail
 refine (z8M b rb cap k rs 123 _ hs hp (by omega)).mono ?_
 rintro e w1 ⟨rfl,g1,q1⟩
 clear hp
 go_wp2_with fail
 refine (zn7 b rb cap (k+1) rs _ g1).mono ?_
 rintro e w2 ⟨rfl,k2,hk2,hk12,g3,g4⟩
 have q2:=q1.trans g4
 clear g4 g1 q1
 by_cases hc:zEH (rs.drop k2)=125
 · have HX:Hid (zfb (rs.drop k)=some ([],rs.drop (k2+1))):=by
    rw [HO.out,←hk2,hc,tail_drop];exact rfl
   go_wp2_with fail
   refine (z8M b rb cap k2 rs 125 _ g3 hc (by omega)).mono ?_
   rintro e w3 ⟨rfl,g5,g6⟩
   clear hc hk2 HO
   go_wp2
   go_ret2
   exact ⟨k2+1,g5,q2.trans g6,Or.inl ⟨[],.slice none 0 0,HX.out,by simp,World.ownsRow_nil _ _ _ _,rfl⟩⟩
 · have HR:Hid (zfb (rs.drop k)=zQf (rs.length - k+1) [] (rs.drop k2)):=by
    rw [HO.out,←hk2,if_neg (by simp [hc])];exact rfl
   go_wp2_with fail
   refine (zZ5 b rb cap k2 rs 125 _ g3 hc).mono ?_
   rintro e w3 ⟨rfl,n3,rfl⟩
   have g5:=g3.drewN n3
   have q3:=q2.drewN n3
   clear hc hk2 HO g3 q2
   go_wp2
   go_loopw [4] (fun v wr=>∃ (j f:Nat) (acc:List Mem),zQf f acc (rs.drop j)=zfb (rs.drop k)∧rs.length+1≤j+f∧acc.length≤j∧wr.ownsRow w.heap.size 218 4 v acc.length (zLk acc)∧Scan wr b rb cap rs j∧Kept [b] w wr) (fun _ wr=>rs.length - z3F wr b)
   case atStart=>
    exact ⟨k2,rs.length - k+1,[],HR.out.symm,by omega,by simp,World.ownsRow_nil _ _ _ _,g5,q3⟩
   case round=>
    obtain ⟨i0,hi,hz0,hz1,hz2⟩:=info_parts zNV
    obtain ⟨j,f,acc,HJ,hf,hal,hown,hsj,hkp⟩:=hrel
    have hJ:Hid (zQf f acc (rs.drop j)=zfb (rs.drop k)):=HJ
    clear HJ HR g5 q3
    have hsm:=hsj.small
    have hlej:=hsj.le
    obtain ⟨f,rfl⟩:∃ f',f=f'+1:=⟨f - 1,by omega⟩
    have eJ:Errs wr:=he.kept hkp (by simpa using hb)
    go_wp2_with fail
    refine (z9m b rb cap j rs _ hsj eJ hb).mono ?_
    rintro e w4 ⟨k4,g6,g7,⟨m,hm,rfl⟩ | ⟨hm,m,rfl⟩⟩
    all_goals
     have q4:=hkp.trans g7
     have o4:=zzF hown g7 (by simp;omega)
     clear hkp g7 hown eJ
     obtain ⟨ma,mb,mc,md⟩:=m
     unfold aggM
    · have hlen:=zVf hm
      simp at hlen
      have HS:Hid (zfb (rs.drop k)=if (zEH (rs.drop k4) == 125) then some (acc++[(ma,mb,mc,md)],(rs.drop k4).tail) else if (zEH (rs.drop k4) == 44) then zQf f (acc++[(ma,mb,mc,md)]) (zek (rs.drop k4).tail) else none):=by
       rw [←hJ.out,zQf,hm];exact rfl
      clear hm hJ
      have hzz:=q4.size
      go_wp2_with (at_builtin;refine wpList_append_own _ rfl _ _ 131 rfl w.heap.size 218 i0 (.agg #[.string ⟨#[]⟩,.int .i64 0,.int .i64 0,.string ⟨#[]⟩]) 4 48 Tryz.underlying131 hi hz0 hz1 hz2 rfl (by decide) _ _ _ rfl ((o4.alloc _).alloc _) ⟨w4.heap.size+1,0,none⟩ 1 1 (zIS (ma,mb,mc,md)) rfl rfl ?c1 ?c2 ?c3 ?c4 ?c5 ?_)
      case c1=>
       have:=zri (w4.alloc (.cells #[.string ⟨ma.toArray⟩,.int .i64 mb,.int .i64 mc,.string ⟨md.toArray⟩] 218)) (.string ⟨ma.toArray⟩) (.int .i64 mb) (.int .i64 mc) (.string ⟨md.toArray⟩) 218
       simpa [zIS] using this
      case c2=>
       intro u hu
       simp [zIS] at hu
       rcases hu with rfl | rfl | rfl | rfl <;> rfl
      case c3=>unfold maxLen;omega
      case c4=>omega
      case c5=>simp;omega
      intro v5 w5 own5 grow5 _
      have hrow:=zYv o4
      have g8:Scan w5 b rb cap rs k4:=((g6.alloc _).alloc _).grown grow5 hrow hbw hrw
      have q5:Kept [b] w w5:=((q4.alloc _).alloc _).grown grow5 hrow
      rw [←z7d] at own5
      have own6:w5.ownsRow w.heap.size 218 4 v5 (acc++[(ma,mb,mc,md)]).length (zLk (acc++[(ma,mb,mc,md)])):=by simpa using own5
      have hnl:(acc++[(ma,mb,mc,md)]).length≤k4:=by simp;omega
      clear own5 grow5 hrow q4 o4 g6
      generalize acc++[(ma,mb,mc,md)]=acc' at*
      by_cases h1:zEH (rs.drop k4)=125
      · have HX:Hid (zfb (rs.drop k)=some (acc',rs.drop (k4+1))):=by rw [HS.out,h1,tail_drop];exact rfl
        go_wp2_with fail
        refine (z8M b rb cap k4 rs 125 _ g8 h1 (by omega)).mono ?_
        rintro e w6 ⟨rfl,g9,g10⟩
        have o7:=zzF own6 g10 (by simp;omega)
        clear h1 HS
        go_wp2
        go_ret2
        exact ⟨k4+1,g9,q5.trans g10,Or.inl ⟨acc',v5,HX.out,by omega,o7,rfl⟩⟩
      · by_cases h2:zEH (rs.drop k4)=44
        · have HX:Hid (zfb (rs.drop k)=zQf f acc' (zek (rs.drop (k4+1)))):=by rw [HS.out,if_neg (by simp [h1]),h2,tail_drop];exact rfl
          have hl4:=znY h2 (by omega)
          go_wp2_with fail
          refine (zZ5 b rb cap k4 rs 125 _ g8 h1).mono ?_
          rintro e w6 ⟨rfl,n6,rfl⟩
          go_wp2_with fail
          refine (z8M b rb cap k4 rs 44 _ (g8.drewN n6) h2 (by omega)).mono ?_
          rintro e w7 ⟨rfl,g9,g10⟩
          clear h1 h2 HS
          go_wp2_with fail
          refine (zn7 b rb cap (k4+1) rs _ g9).mono ?_
          rintro e w8 ⟨rfl,k8,hk8,hk8',g11,g12⟩
          have o8:=zzF (zzF (zzF own6 ((Kept.refl [b] _).drewN n6) (by simp;omega)) g10 (by simp;omega)) g12 (by simp;omega)
          have q8:=((q5.drewN n6).trans g10).trans g12
          have HX':Hid (zQf f acc' (rs.drop k8)=zfb (rs.drop k)):=by rw [HX.out,hk8];exact rfl
          clear HX hk8 g9 g10 g12 own6 q5 g8
          go_wp2
          go_roundw
          case rel=>exact ⟨k8,f,acc',HX'.out,by omega,by omega,o8,g11,q8⟩
          case measure=>rw [g11.place,hsj.place];omega
        · have HX:Hid (zfb (rs.drop k)=none):=by rw [HS.out,if_neg (by simp [h1]),if_neg (by simp [h2])];exact rfl
          go_wp2_with fail
          refine (zZ5 b rb cap k4 rs 125 _ g8 h1).mono ?_
          rintro e w6 ⟨rfl,n6,rfl⟩
          go_wp2_with fail
          refine (zZ5 b rb cap k4 rs 44 _ (g8.drewN n6) h2).mono ?_
          rintro e w7 ⟨rfl,n7,rfl⟩
          clear h1 h2 HS
          go_wp2
          go_ret2
          exact ⟨k4,g8.drewN _,q5.drewN _,Or.inr ⟨HX.out,rfl⟩⟩
    · have HX:Hid (zfb (rs.drop k)=none):=by rw [←hJ.out,zQf,hm];exact rfl
      clear hm hJ
      go_wp2
      go_ret2
      exact ⟨k4,g6.alloc _,q4.alloc _,Or.inr ⟨HX.out,rfl⟩⟩

theorem zRN (b rb cap k:Nat) (rs:List Nat) (w:World) (hs:Scan w b rb cap rs k) (he:Errs w) (hb:9≤b):
 Calls Tryz.prog 105 #[.pointer (some ⟨b,0,none⟩)] w fun e w'=>zY3 b rb cap k rs w e w':=by
 by_cases hp:zEH (rs.drop k)=123
 · exact zph b rb cap k rs w hs he hb hp
 · have HX:Hid (zfb (rs.drop k)=none):=by unfold zfb;rw [if_neg (by simp [hp])];exact rfl
   go_enter Tryz.func105,Tryz.ntmps105
   go_wp2_with fail
   refine (zZ5 b rb cap k rs 123 _ hs hp).mono ?_
   rintro e w1 ⟨rfl,n,rfl⟩
   clear hp
   go_wp2
   go_ret2
   exact ⟨k,hs.drewN _,(Kept.refl _ _).drewN _,Or.inr ⟨HX.out,rfl⟩⟩
end Go.Proofs.YtlkidmafomjhgaaGreatDoor
namespace Go.Proofs.YtlkidmafomjhgaaGreatDoor
open Go.RowKit Go.Maps

def zXz (v:Value):Option (DataW Value×List MemPlace):=some (.held v,[])

def MapFn (w:World) (k:TypeId) (b n sz:Nat) (f:Lit→Option Value):Prop:=
 ∃ D:DataW Value,w.ownsMap Tryz.prog k zXz b n D∧Maps.size D=sz∧Tidy D∧∀ kl,Maps.has D kl=(f kl).isSome∧∀ v,f kl=some v→∀ z,D.atKey kl z=.held v

theorem MapFn.made (w:World) (k:TypeId):MapFn (w.alloc (.map #[] 0)) k w.heap.size 0 0 (fun _=>none):=
 ⟨.map [],World.ownsMap_made w _ k zXz,rfl,tidy_empty,fun kl=>⟨rfl,fun v h=>by cases h⟩⟩
theorem MapFn.kept {w w':World} {k:TypeId} {b n sz:Nat} {f:Lit→Option Value} {S:List Nat} (h:MapFn w k b n sz f) (hk:Kept S w w') (hb:b∉S):MapFn w' k b n sz f:=by
 obtain ⟨D,⟨es,clock,h1,h2⟩,r⟩:=h
 exact ⟨D,⟨es,clock,(hk.block b (zBq h1) hb).trans h1,h2⟩,r⟩
theorem MapFn.lt {w:World} {k:TypeId} {b n sz:Nat} {f:Lit→Option Value} (h:MapFn w k b n sz f):b < w.heap.size:=by
 obtain ⟨D,h1,_⟩:=h;exact h1.lt
theorem MapFn.below {w w':World} {k:TypeId} {b n sz:Nat} {f:Lit→Option Value} (h:MapFn w k b n sz f) (hk:Below w.heap.size w w'):MapFn w' k b n sz f:=h.kept (S:=[]) (Kept.of_below hk) (by simp)
theorem MapFn.alloc {w:World} {k:TypeId} {b n sz:Nat} {f:Lit→Option Value} (h:MapFn w k b n sz f) (o:Obj):MapFn (w.alloc o) k b n sz f:=h.kept (S:=[]) ((Kept.refl _ _).alloc o) (by simp)
theorem MapFn.congr {w:World} {k:TypeId} {b n sz:Nat} {f g:Lit→Option Value} (h:MapFn w k b n sz f) (e:∀ x,f x=g x):MapFn w k b n sz g:=by rw [←funext e];exact h

theorem zzY {D:DataW Value} {f:Lit→Option Value} (h:∀ kl,Maps.has D kl=(f kl).isSome∧∀ v,f kl=some v→∀ z,D.atKey kl z=.held v) (kl:Lit) (z:Value):D.atKey kl (.held z)=.held ((f kl).getD z):=by
 cases hf:f kl with
 | none=>rw [Maps.atKey_of_not_has (by rw [(h kl).1,hf];rfl)];rfl
 | some v=>rw [(h kl).2 v hf];rfl

section
variable {w:World} {ops:Array Oper} {rest:List Oper} {o:Oper} {a:Act} {Q:Exit→Act→World→Prop}
end

theorem MapFn.runOk {w:World} {k e t:TypeId} {b n sz:Nat} {f:Lit→Option Value} (h:MapFn w k b n sz f) (K:Keyed Tryz.prog k) (ht:Tryz.prog.underlying t=some (.map k e)) {z:Value} (hz:(zeroValue e).run Tryz.prog w=.ok z w)
 {key:Value} {kl:Lit} (hkey:keyOf Tryz.prog k key=some kl):(Instr.lookup t (.map (some b)) key true).run Tryz.prog w=.ok (.tuple #[(f kl).getD z,.bool (f kl).isSome]) w:=by
 obtain ⟨D,h1,h2,h3,h4⟩:=h
 obtain ⟨v,ps,hrun,hv⟩:=h1.look_ok K ht hz (R:=zXz) (zd:=.held z) (zp:=[]) rfl hkey
 rw [zzY h4] at hv
 simp only [zXz,Option.some.injEq,Prod.mk.injEq,DataW.held.injEq] at hv
 rw [hrun,hv.1,(h4 kl).1]
theorem MapFn.run1 {w:World} {k e t:TypeId} {b n sz:Nat} {f:Lit→Option Value} (h:MapFn w k b n sz f) (K:Keyed Tryz.prog k) (ht:Tryz.prog.underlying t=some (.map k e)) {z:Value} (hz:(zeroValue e).run Tryz.prog w=.ok z w)
 {key:Value} {kl:Lit} (hkey:keyOf Tryz.prog k key=some kl):(Instr.lookup t (.map (some b)) key false).run Tryz.prog w=.ok ((f kl).getD z) w:=by
 obtain ⟨D,h1,h2,h3,h4⟩:=h
 obtain ⟨v,ps,hrun,hv⟩:=h1.lookup K ht hz (R:=zXz) (zd:=.held z) (zp:=[]) rfl hkey
 rw [zzY h4] at hv
 simp only [zXz,Option.some.injEq,Prod.mk.injEq,DataW.held.injEq] at hv
 rw [hrun,hv.1]
theorem MapFn.runLen {w:World} {k e t:TypeId} {b n sz:Nat} {f:Lit→Option Value} (h:MapFn w k b n sz f) (ht:Tryz.prog.underlying t=some (.map k e)) (ty:TypeId):(Builtin.len_ #[t] ty #[.map (some b)]).run Tryz.prog w=.ok (.int .i64 sz) w:=by
 obtain ⟨D,h1,h2,h3,h4⟩:=h
 rw [h1.len ht ty,h2]
theorem MapFn.runPut {w:World} {k e t:TypeId} {b n sz:Nat} {f:Lit→Option Value} (h:MapFn w k b n sz f) (K:Keyed Tryz.prog k) (ht:Tryz.prog.underlying t=some (.map k e)) (hn:n < maxLen)
 {key:Value} (val:Value) {kl:Lit} (hkey:keyOf Tryz.prog k key=some kl) (hkl:WideAt.IsKeyLit kl) (g:Lit→Option Value) (hg1:g kl=some val) (hg2:∀ x,x≠kl→g x=f x):
 ∃ w',(Instr.mapUpdate t (.map (some b)) key val).run Tryz.prog w=.ok () w'∧MapFn w' k b (n+1) (if (f kl).isSome then sz else sz+1) g∧Kept [b] w w':=by
 obtain ⟨D,h1,h2,h3,h4⟩:=h
 obtain ⟨w',hrun,h1',hg⟩:=h1.update K ht hn hkey (R:=zXz) (d:=.held val) (ps:=[]) (val:=val) rfl
 refine ⟨w',hrun,⟨_,h1',?_,h3.put hkl _,fun kl'=>?_⟩,⟨hg.os,hg.tape,hg.output,hg.size,fun i hi hn=>hg.block i hi (fun e=>hn (by simpa using e))⟩⟩
 · rw [size_put h3,(h4 kl).1,h2]
 · by_cases e:kl'=kl
   · subst e
     rw [hg1]
     exact ⟨has_put_same h3.isMap hkl _,fun v hv z=>by cases hv;exact atKey_put_same h3.isMap hkl _ _⟩
   · rw [hg2 _ e]
     exact ⟨(has_put_other e _).trans (h4 kl').1,fun v hv z=>(atKey_put_other e _ _).trans ((h4 kl').2 v hv z)⟩

theorem lawS:Keyed Tryz.prog 9:=string_keyed Tryz.underlying9
theorem lawI:Keyed Tryz.prog 2:=int_keyed Tryz.underlying2
theorem z7H (w:World):(zeroValue 216).run Tryz.prog w=.ok (.agg #[.int .i64 0,.int .i64 0,.string ⟨#[]⟩]) w:=by kernel_rfl
theorem zG7 (w:World):(zeroValue 3).run Tryz.prog w=.ok (.int .i64 0) w:=by kernel_rfl
end Go.Proofs.YtlkidmafomjhgaaGreatDoor
