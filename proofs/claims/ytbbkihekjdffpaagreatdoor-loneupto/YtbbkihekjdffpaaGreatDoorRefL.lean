/- One text. -/
import Derived.Test.YtbbkihekjdffpaaGreatDoorRefG
import Derived.Test.YtbbkihekjdffpaaGreatDoorScanZ
namespace Go.Proofs.YtbbkihekjdffpaaGreatDoor
open Go.RowKit

theorem zeP (l:List Nat):∀ (f f':Nat) (out:List UInt8),l.length < f→l.length < f'→z6V f out l=z6V f' out l:=by
 induction hn:l.length using Nat.strongRecOn generalizing l with
 | _ n ih=>
   intro f f' out h h'
   obtain ⟨f,rfl⟩:∃ g,f=g+1:=⟨f - 1,by omega⟩
   obtain ⟨f',rfl⟩:∃ g,f'=g+1:=⟨f' - 1,by omega⟩
   cases l with
   | nil=>rfl
   | cons c t=>
     simp at hn
     unfold z6V
     split
     · rfl
     · split
       · cases hx:zvTw t with
         | none=>rfl
         | some p=>
           obtain ⟨v,m⟩:=p
           have:=zf5 hx
           exact ih (t.drop m).length (by simp;omega) (t.drop m) rfl f f' _ (by simp;omega) (by simp;omega)
       · split
         · rfl
         · rename_i hb
           have hc:=z9Z (c::t)
           have h1:1≤(zZe (c::t)).toNat:=by omega
           exact ih ((c::t).drop (zZe (c::t)).toNat).length (by simp;omega) _ rfl f f' _ (by simp;omega) (by simp;omega)

def zEm (t:List Nat):Option (List UInt8×List Nat):=z6V (t.length+1) [] t
def zOT (c:Nat):Bool:=c == 45||(decide (48≤c)&&decide (c≤57))||(decide (97≤c)&&decide (c≤122))
def wordLen:List Nat→Nat
 | []=>0
 | c::t=>if zOT c then wordLen t+1 else 0
theorem zON (l:List Nat):wordLen l≤l.length:=by
 induction l with
 | nil=>simp [wordLen]
 | cons c t ih=>unfold wordLen;split <;> simp;omega
theorem z9b {c:Nat} {t:List Nat} (h:zOT c=true):wordLen (c::t)=wordLen t+1:=by unfold wordLen;rw [if_pos h];cases t <;> rfl
abbrev Pc:=Nat×List UInt8
def zEz (c:Nat):Bool:=c == 32||c == 9||c == 13
def z7R (c:Nat):Bool:=c == 123||c == 125||c == 58||c == 44
def z2R:Nat→List Pc→List Nat→Option (List Pc)
 | 0,_,_=>none
 | _+1,acc,[]=>some acc
 | f+1,acc,c::t=>if zEz c then z2R f acc t else if z7R c then z2R f (acc++[(c,[])]) t
   else if c=34 then (match zEm t with | none=>none | some (v,r)=>z2R f (acc++[(34,v)]) r)
   else if wordLen (c::t)=0 then none else z2R f (acc++[(119,zU1 ((c::t).take (wordLen (c::t))))]) ((c::t).drop (wordLen (c::t)))
def zvF (l:List Nat):Option (List Pc):=z2R (l.length+1) [] l

def zEN (p:Pc):List Value:=[.int .u8 (p.1:Int),.string ⟨p.2.toArray⟩]
def z9c (l:List Pc):List Value:=l.flatMap zEN
theorem zqGm (l:List Pc) (m:Pc):z9c (l++[m])=z9c l++zEN m:=by simp [z9c]
theorem zq7:(Tryz.prog.info? 226).map (fun i=>(i.zero,i.size,i.bytes))=some (some (.agg #[.int .u8 0,.string ⟨#[]⟩]),2,24):=by kernel_rfl
theorem zQa (w:World) (a b:Value) (t:TypeId):∀ j u,[a,b][j]?=some u→(w.alloc (.cells #[a,b] t)).cell? ((⟨w.heap.size,0,none⟩:Addr).add j)=some u:=by
 intro j u hj
 match j,hj with
 | 0,hj=>simp at hj;subst hj;simp [Addr.add]
 | 1,hj=>simp at hj;subst hj;simp [Addr.add]
theorem Below.grown' {a w w':World} {row:Option Nat} (h:Below a.heap.size a w) (hg:w.grownBy w' row) (hr:∀ g,row=some g→a.heap.size≤g):Below a.heap.size a w':=h.grown hg h.size hr

theorem bq32 (x a:Nat) (h:x=a):((x:Int) == 32)=(a == 32):=by subst h;rw [Bool.eq_iff_iff];simp;omega
theorem bq9 (x a:Nat) (h:x=a):((x:Int) == 9)=(a == 9):=by subst h;rw [Bool.eq_iff_iff];simp;omega
theorem bq13 (x a:Nat) (h:x=a):((x:Int) == 13)=(a == 13):=by subst h;rw [Bool.eq_iff_iff];simp;omega
theorem ztG (x a:Nat) (h:x=a):((x:Int) == 123)=(a == 123):=by subst h;rw [Bool.eq_iff_iff];simp;omega
theorem z0l (x a:Nat) (h:x=a):((x:Int) == 125)=(a == 125):=by subst h;rw [Bool.eq_iff_iff];simp;omega
theorem bq58 (x a:Nat) (h:x=a):((x:Int) == 58)=(a == 58):=by subst h;rw [Bool.eq_iff_iff];simp;omega
theorem bq44 (x a:Nat) (h:x=a):((x:Int) == 44)=(a == 44):=by subst h;rw [Bool.eq_iff_iff];simp;omega
def pcOk (p:Pc):Prop:=p.1 < 256∧p.2.length≤8000000

def zu7 (s:ByteArray) (w:World) (e:Ending) (w':World):Prop:=
 Below w.heap.size w w'∧((∃ ps v,zvF (lets s)=some ps∧ps.length≤s.size∧(∀ p∈ps,pcOk p)∧w'.ownsRow w.heap.size 226 2 v ps.length (z9c ps)∧e=.returned (.tuple #[v,.bool true]))∨
  (zvF (lets s)=none∧e=.returned (.tuple #[.slice none 0 0,.bool false])))

set_option maxHeartbeats 4000000 in
set_option maxRecDepth 100000 in
theorem zGy (s:ByteArray) (w:World) (hs:s.size≤2000000):
 Calls Tryz.prog 100 #[.string s] w fun e w'=>zu7 s w e w':=by
 go_enter Tryz.func100,Tryz.ntmps100
 go_wp2
 go_loopw [4,5] (fun v i wr=>∃ (j f:Nat) (acc:List Pc),i=.int .i64 (j:Int)∧j≤s.size∧acc.length≤j∧s.size+1≤j+f∧(∀ p∈acc,pcOk p)∧z2R f acc ((lets s).drop j)=zvF (lets s)∧wr.ownsRow w.heap.size 226 2 v acc.length (z9c acc)∧Below w.heap.size w wr) (fun _ i _=>s.size - (intOf i).toNat)
 case atStart=>exact ⟨0,s.size+1,[],rfl,by omega,by simp,by omega,by simp,by unfold zvF;rw [List.drop_zero,zSQ],World.ownsRow_nil _ _ _ _,Below.refl _ _⟩
 case round=>
  obtain ⟨i0,hi,hz0,hz1,hz2⟩:=info_parts zq7
  obtain ⟨j,f,acc,rfl,hjs,hal,hjf,hok,HR,hown,hbl⟩:=hrel
  have hR:Hid (z2R f acc ((lets s).drop j)=zvF (lets s)):=HR
  clear HR
  by_cases hin:j < s.size
  · obtain ⟨f,rfl⟩:∃ f',f=f'+1:=⟨f - 1,by omega⟩
    have hin':(j:Int) < (s.size:Int):=by omega
    have hcb:(s[j]).toNat < 256:=(s[j]).toNat_lt
    have hD:Hid ((lets s).drop j=(s[j]).toNat::(lets s).drop (j+1)):=zhG hin
    by_cases hbk:(s[j]).toNat=32∨(s[j]).toNat=9∨(s[j]).toNat=13
    · have hE:Hid (z2R f acc ((lets s).drop (j+1))=zvF (lets s)):=by
       rw [←hR.out,hD.out,z2R,if_pos (by unfold zEz;simp;omega)];exact rfl
      clear hR hD
      rcases hbk with h | h | h
      all_goals
       have b1:=bq32 _ _ h
       have b2:=bq9 _ _ h
       have b3:=bq13 _ _ h
       simp only [Nat.reduceBEq] at b1 b2 b3
       clear h
       go_wp2
       go_roundw
       case rel=>exact ⟨j+1,f,acc,by go_num,by omega,by omega,by omega,hok,hE.out,hown,hbl⟩
       case measure=>simp [intOf];omega
    · by_cases hmk:(s[j]).toNat=123∨(s[j]).toNat=125∨(s[j]).toNat=58∨(s[j]).toNat=44
      · have hE:Hid (z2R f (acc++[((s[j]).toNat,[])]) ((lets s).drop (j+1))=zvF (lets s)):=by
         rw [←hR.out,hD.out,z2R,if_neg (by unfold zEz;simp;omega),if_pos (by unfold z7R;simp;omega)];exact rfl
        have hok':∀ p∈acc++[((s[j]).toNat,[])],pcOk p:=by
         intro p hp
         rcases List.mem_append.1 hp with hp | hp
         · exact hok p hp
         · simp at hp;subst hp;exact ⟨hcb,by simp⟩
        clear hR hD hbk hok
        rcases hmk with h | h | h | h
        all_goals
         have b1:=bq32 _ _ h
         have b2:=bq9 _ _ h
         have b3:=bq13 _ _ h
         have b4:=ztG _ _ h
         have b5:=z0l _ _ h
         have b6:=bq58 _ _ h
         have b7:=bq44 _ _ h
         simp only [Nat.reduceBEq] at b1 b2 b3 b4 b5 b6 b7
         clear h
         have hzz:=hbl.size
         go_wp2_with (at_builtin;refine wpList_append_own _ rfl _ _ 222 rfl w.heap.size 226 i0 (.agg #[.int .u8 0,.string ⟨#[]⟩]) 2 24 Tryz.underlying222 hi hz0 hz1 hz2 rfl (by decide) _ _ _ rfl (hown.alloc _) ⟨wr.heap.size,0,none⟩ 1 1 (zEN ((s[j]).toNat,[])) rfl rfl ?c1 ?c2 ?c3 ?c4 ?c5 ?_)
         case c1=>simpa [zEN] using zQa wr (.int .u8 ((s[j]).toNat:Int)) (.string ⟨#[]⟩) 226
         case c2=>
          intro u hu
          simp [zEN] at hu
          rcases hu with rfl | rfl <;> rfl
         case c3=>unfold maxLen;omega
         case c4=>omega
         case c5=>simp;omega
         intro v5 w5 own5 grow5 _
         have hrow:=zYv hown
         have hb5:Below w.heap.size w w5:=Below.grown' (hbl.alloc (by omega) _) grow5 hrow
         rw [←zqGm] at own5
         have own6:w5.ownsRow w.heap.size 226 2 v5 (acc++[((s[j]).toNat,[])]).length (z9c (acc++[((s[j]).toNat,[])])):=by simpa using own5
         clear own5 grow5 hrow hown
         generalize hacc:acc++[((s[j]).toNat,[])]=acc' at*
         have hal':acc'.length≤j+1:=by rw [←hacc];simp;omega
         go_wp2
         go_roundw
         case rel=>exact ⟨j+1,f,acc',by go_num,by omega,hal',by omega,hok',hE.out,own6,hb5⟩
         case measure=>simp [intOf];omega
      · have hnb:¬ zEz (s[j]).toNat=true:=by unfold zEz;simp;omega
        have hnm:¬ z7R (s[j]).toNat=true:=by unfold z7R;simp;omega
        have b1:(((s[j]).toNat:Int) == 32)=false:=by simp;omega
        have b2:(((s[j]).toNat:Int) == 9)=false:=by simp;omega
        have b3:(((s[j]).toNat:Int) == 13)=false:=by simp;omega
        have b4:(((s[j]).toNat:Int) == 123)=false:=by simp;omega
        have b5:(((s[j]).toNat:Int) == 125)=false:=by simp;omega
        have b6:(((s[j]).toNat:Int) == 58)=false:=by simp;omega
        have b7:(((s[j]).toNat:Int) == 44)=false:=by simp;omega
        clear hbk hmk
        have hzz:=hbl.size
        by_cases h34:(s[j]).toNat=34
        · have b8:(((s[j]).toNat:Int) == 34)=true:=by simp;omega
          have hS:Hid (zvF (lets s)=match z6V (s.size+1) [] ((lets s).drop (j+1)) with | none=>none | some (v,r)=>z2R f (acc++[((s[j]).toNat,v)]) r):=by
           rw [←hR.out,hD.out,z2R,if_neg hnb,if_neg hnm,if_pos h34,h34]
           have hll:((lets s).drop (j+1)).length < s.size+1:=by rw [List.length_drop,zSQ];omega
           rw [zeP ((lets s).drop (j+1)) (s.size+1) (((lets s).drop (j+1)).length+1) [] hll (by omega)]
           exact rfl
          clear hR hD hnb hnm h34
          go_wp2_with fail
          refine (zif s j _ hs hin).mono ?_
          rintro e w2 ⟨hb2,⟨v,j2,hq,hj1,hj2,hvl,rfl⟩ | ⟨hq,rfl⟩⟩
          all_goals
           have hbl2:Below w.heap.size w w2:=hbl.trans (hb2.mono hbl.size)
           have hz2':=hbl2.size
          · have hE:Hid (z2R f (acc++[((s[j]).toNat,v)]) ((lets s).drop j2)=zvF (lets s)):=by rw [hS.out,hq];exact rfl
            have hok':∀ p∈acc++[((s[j]).toNat,v)],pcOk p:=by
             intro p hp
             rcases List.mem_append.1 hp with hp | hp
             · exact hok p hp
             · simp at hp;subst hp;exact ⟨hcb,by show v.length≤8000000;omega⟩
            have own2:=zzF hown (Kept.of_below (S:=[]) hb2) (by simp)
            have hneg:¬ ((j2:Int) < 0):=by omega
            clear hS hq hok hown
            go_wp2_with (at_builtin;refine wpList_append_own _ rfl _ _ 222 rfl w.heap.size 226 i0 (.agg #[.int .u8 0,.string ⟨#[]⟩]) 2 24 Tryz.underlying222 hi hz0 hz1 hz2 rfl (by decide) _ _ _ rfl (own2.alloc _) ⟨w2.heap.size,0,none⟩ 1 1 (zEN ((s[j]).toNat,v)) rfl rfl ?c1 ?c2 ?c3 ?c4 ?c5 ?_)
            case c1=>simpa [zEN] using zQa w2 (.int .u8 ((s[j]).toNat:Int)) (.string ⟨v.toArray⟩) 226
            case c2=>
             intro u hu
             simp [zEN] at hu
             rcases hu with rfl | rfl <;> rfl
            case c3=>unfold maxLen;omega
            case c4=>omega
            case c5=>simp;omega
            intro v5 w5 own5 grow5 _
            have hrow:=zYv own2
            have hb5:Below w.heap.size w w5:=Below.grown' (hbl2.alloc (by omega) _) grow5 hrow
            rw [←zqGm] at own5
            have own6:w5.ownsRow w.heap.size 226 2 v5 (acc++[((s[j]).toNat,v)]).length (z9c (acc++[((s[j]).toNat,v)])):=by simpa using own5
            clear own5 grow5 hrow own2
            generalize hacc:acc++[((s[j]).toNat,v)]=acc' at*
            have hal':acc'.length≤j2:=by rw [←hacc];simp;omega
            go_wp2
            go_roundw
            case rel=>exact ⟨j2,f,acc',by go_num,by omega,hal',by omega,hok',hE.out,own6,hb5⟩
            case measure=>simp [intOf];omega
          · have hE:Hid (zvF (lets s)=none):=by rw [hS.out,hq];exact rfl
            clear hS hq
            go_wp2
            go_ret2
            exact ⟨hbl2,Or.inr ⟨hE.out,rfl⟩⟩
        · have b8:(((s[j]).toNat:Int) == 34)=false:=by simp;omega
          have hS:Hid (zvF (lets s)=if wordLen ((lets s).drop j)=0 then none else z2R f (acc++[(119,zU1 (((lets s).drop j).take (wordLen ((lets s).drop j))))]) (((lets s).drop j).drop (wordLen ((lets s).drop j)))):=by
           rw [←hR.out,hD.out,z2R,if_neg hnb,if_neg hnm,if_neg h34];exact rfl
          have hwl:wordLen ((lets s).drop j)≤s.size - j:=by have:=zON ((lets s).drop j);rw [List.length_drop,zSQ] at this;exact this
          clear hR hD hnb hnm h34
          generalize hn:wordLen ((lets s).drop j)=n at*
          have hN:Hid (wordLen ((lets s).drop j)=n):=hn
          clear hn
          go_wp2
          go_loop [5] (fun i=>∃ (q:Nat),i=.int .i64 (q:Int)∧j≤q∧q≤j+n∧wordLen ((lets s).drop q)+q=n+j) (fun i=>s.size - (intOf i).toNat)
          case atStart=>exact ⟨j,rfl,by omega,by omega,by rw [hN.out]⟩
          case round=>
           obtain ⟨q,rfl,hjq,hqn,HK⟩:=hrel
           have hK:Hid (wordLen ((lets s).drop q)+q=n+j):=HK
           clear HK hN
           by_cases hgo:∃ h:q < s.size,zOT (s[q]).toNat=true
           · obtain ⟨hlt,hwb⟩:=hgo
             have hK2:Hid (wordLen ((lets s).drop (q+1))+(q+1)=n+j):=by
              have:=hK.out
              rw [zhG hlt,z9b hwb] at this
              show _=n+j
              omega
             have hk1:q+1≤j+n:=by have:=hK2.out;omega
             have hlt':(q:Int) < (s.size:Int):=by omega
             have hcase:(s[q]).toNat=45∨(48≤(s[q]).toNat∧(s[q]).toNat≤57)∨(97≤(s[q]).toNat∧(s[q]).toNat≤122):=by
              unfold zOT at hwb;simp at hwb;omega
             clear hK hwb
             rcases hcase with h | ⟨h,h'⟩ | ⟨h,h'⟩
             · have c1:(((s[q]).toNat:Int) == 45)=true:=by simp;omega
               clear h
               go_wp2
               go_round
               case rel=>exact ⟨q+1,by go_num,by omega,by omega,hK2.out⟩
               case measure=>simp [intOf];omega
             · have c1:(((s[q]).toNat:Int) == 45)=false:=by simp;omega
               have c2:(48:Int)≤((s[q]).toNat:Int):=by omega
               have c3:((s[q]).toNat:Int)≤57:=by omega
               clear h h'
               go_wp2
               go_round
               case rel=>exact ⟨q+1,by go_num,by omega,by omega,hK2.out⟩
               case measure=>simp [intOf];omega
             · have c1:(((s[q]).toNat:Int) == 45)=false:=by simp;omega
               have c2:(48:Int)≤((s[q]).toNat:Int):=by omega
               have c3:¬ ((s[q]).toNat:Int)≤57:=by omega
               have c4:(97:Int)≤((s[q]).toNat:Int):=by omega
               have c5:((s[q]).toNat:Int)≤122:=by omega
               clear h h'
               go_wp2
               go_round
               case rel=>exact ⟨q+1,by go_num,by omega,by omega,hK2.out⟩
               case measure=>simp [intOf];omega
           · have hend:q=j+n:=by
              have hz:wordLen ((lets s).drop q)=0:=by
               by_cases hlt:q < s.size
               · rw [zhG hlt];unfold wordLen;rw [if_neg (fun h=>hgo ⟨hlt,h⟩)]
               · rw [zgM (by omega)];rfl
              have:=hK.out
              omega
             have hcase:(¬ (q:Int) < (s.size:Int))∨(∃ h:q < s.size,(q:Int) < (s.size:Int)∧(((s[q]).toNat:Int) == 45)=false∧¬ (48:Int)≤((s[q]).toNat:Int)∧¬ (97:Int)≤((s[q]).toNat:Int))∨
              (∃ h:q < s.size,(q:Int) < (s.size:Int)∧(((s[q]).toNat:Int) == 45)=false∧(48:Int)≤((s[q]).toNat:Int)∧¬ ((s[q]).toNat:Int)≤57∧¬ (97:Int)≤((s[q]).toNat:Int))∨
              (∃ h:q < s.size,(q:Int) < (s.size:Int)∧(((s[q]).toNat:Int) == 45)=false∧(48:Int)≤((s[q]).toNat:Int)∧¬ ((s[q]).toNat:Int)≤57∧(97:Int)≤((s[q]).toNat:Int)∧¬ ((s[q]).toNat:Int)≤122):=by
              by_cases hlt:q < s.size
              · right
                have hwb:¬ zOT (s[q]).toNat=true:=fun h=>hgo ⟨hlt,h⟩
                unfold zOT at hwb
                simp only [Bool.or_eq_true,Bool.and_eq_true,decide_eq_true_eq,beq_iff_eq] at hwb
                have h45:(((s[q]).toNat:Int) == 45)=false:=by simp;omega
                have hq':(q:Int) < (s.size:Int):=by omega
                by_cases h1:(s[q]).toNat < 48
                · exact Or.inl ⟨hlt,hq',h45,by omega,by omega⟩
                · by_cases h2:(s[q]).toNat < 97
                  · exact Or.inr (Or.inl ⟨hlt,hq',h45,by omega,by omega,by omega⟩)
                  · exact Or.inr (Or.inr ⟨hlt,hq',h45,by omega,by omega,by omega,by omega⟩)
              · left;omega
             clear hgo hK
             by_cases hn0:n=0
             · have hE:Hid (zvF (lets s)=none):=by rw [hS.out,if_pos hn0];exact rfl
               have he:((q:Int) == (j:Int))=true:=by simp;omega
               clear hS hn0 hend
               rcases hcase with h1 | ⟨hlt,h1,h2,h3,h4⟩ | ⟨hlt,h1,h2,h3,h4,h5⟩ | ⟨hlt,h1,h2,h3,h4,h5,h6⟩
               all_goals
                go_wp2
                go_ret2
                exact ⟨hbl,Or.inr ⟨hE.out,rfl⟩⟩
             · have hE:Hid (z2R f (acc++[(119,zU1 (((lets s).drop j).take n))]) ((lets s).drop q)=zvF (lets s)):=by
                rw [hS.out,if_neg hn0,List.drop_drop,hend];exact rfl
               have he:((q:Int) == (j:Int))=false:=by simp;omega
               have hq1:q≤s.size:=by omega
               have hq2:j < q:=by omega
               have hx:s.extract j q=⟨(zU1 (((lets s).drop j).take n)).toArray⟩:=by rw [hend];exact z4M s j n
               have hok':∀ p∈acc++[((119:Nat),zU1 (((lets s).drop j).take n))],pcOk p:=by
                intro p hp
                rcases List.mem_append.1 hp with hp | hp
                · exact hok p hp
                · simp at hp;subst hp;exact ⟨by show (119:Nat) < 256;omega,by simp [zU1];omega⟩
               generalize zU1 (((lets s).drop j).take n)=wd at*
               clear hS hn0 hend hok
               have hjq':(j:Int)≤(q:Int):=by omega
               have hqs':(q:Int)≤(s.size:Int):=by omega
               rcases hcase with h1 | ⟨hlt,h1,h2,h3,h4⟩ | ⟨hlt,h1,h2,h3,h4,h5⟩ | ⟨hlt,h1,h2,h3,h4,h5,h6⟩
               all_goals
                go_wp2_with (at_builtin;refine wpList_append_own _ rfl _ _ 222 rfl w.heap.size 226 i0 (.agg #[.int .u8 0,.string ⟨#[]⟩]) 2 24 Tryz.underlying222 hi hz0 hz1 hz2 rfl (by decide) _ _ _ rfl (hown.alloc _) ⟨wr.heap.size,0,none⟩ 1 1 [.int .u8 119,.string ⟨wd.toArray⟩] rfl rfl ?c1 ?c2 ?c3 ?c4 ?c5 ?_)
                case c2=>exact ⟨rfl,rfl⟩
                case c3=>unfold maxLen;omega
                case c4=>omega
                case c5=>omega
                intro v5 w5 own5 grow5 _
                have hrow:=zYv hown
                have hb5:Below w.heap.size w w5:=Below.grown' (hbl.alloc (by omega) _) grow5 hrow
                rw [show [Value.int .u8 119,Value.string ⟨wd.toArray⟩]=zEN ((119:Nat),wd) from rfl,←zqGm] at own5
                have own6:w5.ownsRow w.heap.size 226 2 v5 (acc++[((119:Nat),wd)]).length (z9c (acc++[((119:Nat),wd)])):=by simpa using own5
                clear own5 grow5 hrow hown
                generalize hacc:acc++[((119:Nat),wd)]=acc' at*
                have hal':acc'.length≤q:=by rw [←hacc];simp;omega
                go_wp2
                go_roundw
                case rel=>exact ⟨q,f,acc',by go_num,by omega,hal',by omega,hok',hE.out,own6,hb5⟩
                case measure=>simp [intOf];omega
  · have hE:Hid (zvF (lets s)=some acc):=by
     rw [←hR.out,zgM (by omega)]
     obtain ⟨f,rfl⟩:∃ f',f=f'+1:=⟨f - 1,by omega⟩
     exact rfl
    have hin':¬ (j:Int) < (s.size:Int):=by omega
    clear hR
    go_wp2
    go_ret2
    exact ⟨hbl,Or.inl ⟨acc,_,hE.out,by omega,hok,hown,rfl⟩⟩
end Go.Proofs.YtbbkihekjdffpaaGreatDoor
