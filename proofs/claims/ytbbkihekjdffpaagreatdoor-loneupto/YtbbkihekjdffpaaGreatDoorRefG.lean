/- Several texts in one. -/
import Derived.Test.YtbbkihekjdffpaaGreatDoorRefE
import Derived.Lib.Strings
set_option maxHeartbeats 9000000
set_option maxRecDepth 100000
namespace Go.Proofs.YtbbkihekjdffpaaGreatDoor
open Go.RowKit

def zU1 (l:List Nat):List UInt8:=l.map UInt8.ofNat
def z6V:Nat→List UInt8→List Nat→Option (List UInt8×List Nat)
 | 0,_,_=>none
 | _+1,_,[]=>none
 | f+1,out,c::t=>if c=34 then some (out,t) else if c=92 then
    (match zvTw t with | none=>none | some (v,n)=>z6V f (out++Lib.encodeRune v) (t.drop n))
   else if zZe (c::t)=0∨c < 32 then none else z6V f (out++zU1 ((c::t).take (zZe (c::t)).toNat)) ((c::t).drop (zZe (c::t)).toNat)

theorem bapp (a b:List UInt8):(⟨a.toArray⟩:ByteArray)++(⟨b.toArray⟩:ByteArray)=⟨(a++b).toArray⟩:=by
 apply ByteArray.ext
 simp

theorem zln (l:List UInt8):zU1 (l.map (·.toNat))=l:=by
 unfold zU1
 induction l with
 | nil=>rfl
 | cons a t ih=>simp only [List.map_cons,ih];congr 1;exact UInt8.ofNat_toNat
theorem z4M (s:ByteArray) (j n:Nat):s.extract j (j+n)=⟨(zU1 (((lets s).drop j).take n)).toArray⟩:=by
 rw [Lib.extract_eq,show ((lets s).drop j).take n=((s.data.toList.drop j).take n).map (·.toNat) by unfold lets;rw [List.map_take,List.map_drop],zln]
 congr 3
 omega

theorem zVE {l:List Nat} {v:Int} {n:Nat} (h:z1B l=some (v,n)):1≤n∧n≤10:=by
 unfold z1B at h
 split at h
 · cases h
 · split at h
   · cases h
   · split at h
     · split at h
       · split at h
         · cases h
         · split at h
           · simp at h;omega
           · cases h
       · cases h
     · simp at h;omega
theorem zf5 {l:List Nat} {v:Int} {n:Nat} (h:zvTw l=some (v,n)):1≤n∧n≤11:=by
 cases l with
 | nil=>cases h
 | cons c t=>
   unfold zvTw at h
   repeat' split at h
   all_goals first
    | (simp at h;omega)
    | (cases h;done)
    | (rename_i hq;simp at h;have:=zVE hq;omega)

theorem z6m (m:Nat):∀ (v:Int) (l:List Nat) (x:Int),zrv m v l=some x→m≤l.length:=by
 induction m with
 | zero=>intro v l x _;omega
 | succ m ih=>
   intro v l x h
   cases l with
   | nil=>simp [zrv] at h
   | cons c t=>
     rw [zrv] at h
     split at h
     · have:=ih _ _ _ h;simp;omega
     · cases h
theorem zJw (n least:Int) (o:Option Int):z5U n least o=0∨(z5U n least o=n∧∃ x,o=some x):=by
 cases o with
 | none=>left;rfl
 | some v=>
   by_cases h:v < least∨1114111 < v∨(55296≤v∧v≤57343)
   · left;exact zHy h
   · right;exact ⟨z9X h,v,rfl⟩
theorem z9Z (l:List Nat):0≤zZe l∧zZe l≤4∧(zZe l≠0→(zZe l).toNat≤l.length):=by
 cases l with
 | nil=>exact ⟨by decide,by decide,fun h=>absurd rfl h⟩
 | cons b t=>
   rw [zZe]
   split
   · exact ⟨by decide,by decide,fun _=>by simp⟩
   · split
     · rcases zJw 2 128 (zrv 1 ((b:Int) - 192) t) with h | ⟨h,x,hx⟩
       · rw [h];exact ⟨by decide,by decide,fun h=>absurd rfl h⟩
       · rw [h];have:=z6m _ _ _ _ hx;exact ⟨by decide,by decide,fun _=>by simp;omega⟩
     · split
       · rcases zJw 3 2048 (zrv 2 ((b:Int) - 224) t) with h | ⟨h,x,hx⟩
         · rw [h];exact ⟨by decide,by decide,fun h=>absurd rfl h⟩
         · rw [h];have:=z6m _ _ _ _ hx;exact ⟨by decide,by decide,fun _=>by simp;omega⟩
       · split
         · rcases zJw 4 65536 (zrv 3 ((b:Int) - 240) t) with h | ⟨h,x,hx⟩
           · rw [h];exact ⟨by decide,by decide,fun h=>absurd rfl h⟩
           · rw [h];have:=z6m _ _ _ _ hx;exact ⟨by decide,by decide,fun _=>by simp;omega⟩
         · exact ⟨by decide,by decide,fun h=>absurd rfl h⟩

theorem zif (s:ByteArray) (k:Nat) (w:World) (hs:s.size≤2000000) (hk:k < s.size):
 Calls Tryz.prog 133 #[.string s,.int .i64 k] w fun e w'=>Below w.heap.size w w'∧
  ((∃ v j,z6V (s.size+1) [] ((lets s).drop (k+1))=some (v,(lets s).drop j)∧k < j∧j≤s.size∧v.length≤4*s.size∧e=.returned (.tuple #[.string ⟨v.toArray⟩,.int .i64 (j:Int)]))∨
   (z6V (s.size+1) [] ((lets s).drop (k+1))=none∧e=.returned (.tuple #[.string ⟨#[]⟩,.int .i64 (-1)]))):=by
 go_enter Tryz.func133,Tryz.ntmps133
 go_wp2
 go_loopw [6,7] (fun o i wr=>∃ (j f:Nat) (out:List UInt8),o=.string ⟨out.toArray⟩∧i=.int .i64 (j:Int)∧k < j∧j≤s.size+12∧s.size+2≤j+f∧out.length≤4*j∧z6V f out ((lets s).drop j)=z6V (s.size+1) [] ((lets s).drop (k+1))∧Below w.heap.size w wr) (fun _ i _=>s.size+12 - (intOf i).toNat)
 case atStart=>exact ⟨k+1,s.size+1,[],rfl,by go_num,by omega,by omega,by omega,by simp,rfl,Below.refl _ _⟩
 case round=>
  obtain ⟨j,f,out,rfl,rfl,hkj,hjs,hjf,hol,HR,hbl⟩:=hrel
  have hR:Hid (z6V f out ((lets s).drop j)=z6V (s.size+1) [] ((lets s).drop (k+1))):=HR
  clear HR
  by_cases hin:j < s.size
  · obtain ⟨f,rfl⟩:∃ f',f=f'+1:=⟨f - 1,by omega⟩
    have hin':(j:Int) < (s.size:Int):=by omega
    have hcb:(s[j]).toNat < 256:=(s[j]).toNat_lt
    have hD:Hid ((lets s).drop j=(s[j]).toNat::(lets s).drop (j+1)):=zhG hin
    by_cases h34:(s[j]).toNat=34
    · have hq:(((s[j]).toNat:Int) != 34)=false:=by simp;omega
      have hE:Hid (z6V (s.size+1) [] ((lets s).drop (k+1))=some (out,(lets s).drop (j+1))):=by rw [←hR.out,hD.out,z6V,if_pos h34];exact rfl
      clear hR hD h34
      go_wp2
      go_ret2
      exact ⟨hbl,Or.inl ⟨out,j+1,hE.out,by omega,by omega,by omega,rfl⟩⟩
    · have hq:(((s[j]).toNat:Int) != 34)=true:=by simp;omega
      by_cases h92:(s[j]).toNat=92
      · have hq2:(((s[j]).toNat:Int) == 92)=true:=by simp;omega
        have hS:Hid (z6V (s.size+1) [] ((lets s).drop (k+1))=(match zvTw ((lets s).drop (j+1)) with | none=>none | some (v,n)=>z6V f (out++Lib.encodeRune v) (((lets s).drop (j+1)).drop n))):=by
         rw [←hR.out,hD.out,z6V,if_neg h34,if_pos h92];exact rfl
        clear hR hD h34 h92
        go_wp2_with fail
        refine (zsm s j _ hs hin).mono ?_
        rintro e w2 ⟨rfl,hb2⟩
        have hbl2:=hbl.trans (hb2.mono hbl.size)
        cases hx:zvTw ((lets s).drop (j+1)) with
        | none=>
          have hE:Hid (z6V (s.size+1) [] ((lets s).drop (k+1))=none):=by rw [hS.out,hx];exact rfl
          rw [show escR ((lets s).drop (j+1))=([],0) by unfold escR;rw [hx]]
          clear hS hx
          go_wp2
          go_ret2
          exact ⟨hbl2,Or.inr ⟨hE.out,rfl⟩⟩
        | some p=>
          obtain ⟨v,n⟩:=p
          rw [show escR ((lets s).drop (j+1))=(Lib.encodeRune v,(n:Int)+1) by unfold escR;rw [hx]]
          have hn:=zf5 hx
          have hE:Hid (z6V f (out++Lib.encodeRune v) ((lets s).drop (j+1+n))=z6V (s.size+1) [] ((lets s).drop (k+1))):=by
           rw [hS.out,hx];simp only [List.drop_drop];trivial
          have hne:(((n:Int)+1) == 0)=false:=by simp;omega
          have hl4:=Lib.runeCells_le v
          rw [Lib.runeCells_length] at hl4
          clear hS hx
          go_wp2
          go_roundw
          case rel=>exact ⟨j+1+n,f,out++Lib.encodeRune v,by rw [bapp],by go_num,by omega,by omega,by omega,by simp;omega,hE.out,hbl2⟩
          case measure=>simp [intOf];omega
      · have hq2:(((s[j]).toNat:Int) == 92)=false:=by simp;omega
        have hS:Hid (z6V (s.size+1) [] ((lets s).drop (k+1))=if zZe ((lets s).drop j)=0∨(s[j]).toNat < 32 then none else z6V f (out++zU1 (((lets s).drop j).take (zZe ((lets s).drop j)).toNat)) (((lets s).drop j).drop (zZe ((lets s).drop j)).toNat)):=by
         rw [←hR.out,hD.out,z6V,if_neg h34,if_neg h92];exact rfl
        clear hR hD h34 h92
        go_wp2_with fail
        refine (zPC s j _ hs hin).mono ?_
        rintro e w2 ⟨rfl,rfl⟩
        have hcp:=z9Z ((lets s).drop j)
        generalize zZe ((lets s).drop j)=n at*
        by_cases hbad:n=0∨(s[j]).toNat < 32
        · have hE:Hid (z6V (s.size+1) [] ((lets s).drop (k+1))=none):=by rw [hS.out,if_pos hbad];exact rfl
          clear hS
          by_cases h0:n=0
          · subst h0
            clear hbad
            go_wp2
            go_ret2
            exact ⟨hbl,Or.inr ⟨hE.out,rfl⟩⟩
          · have h0':(n == 0)=false:=by simpa using h0
            have h32:((s[j]).toNat:Int) < 32:=by omega
            clear hbad h0
            go_wp2
            go_ret2
            exact ⟨hbl,Or.inr ⟨hE.out,rfl⟩⟩
        · have hE:Hid (z6V f (out++zU1 (((lets s).drop j).take n.toNat)) (((lets s).drop j).drop n.toNat)=z6V (s.size+1) [] ((lets s).drop (k+1))):=by rw [hS.out,if_neg hbad];exact rfl
          have h0':(n == 0)=false:=by simp;omega
          have h32:¬ ((s[j]).toNat:Int) < 32:=by omega
          have hlen:n.toNat≤s.size - j:=by
           have:=hcp.2.2 (by omega)
           simpa [lets] using this
          have hn4:n≤4:=hcp.2.1
          have hn1:1≤n:=by omega
          have hsz:(j:Int)+n≤(s.size:Int):=by omega
          clear hS hbad
          go_wp2
          have hto:((j:Int)+n).toNat=j+n.toNat:=by omega
          have hlt:(zU1 (((lets s).drop j).take n.toNat)).length≤4:=by simp [zU1];omega
          go_roundw
          case rel=>exact ⟨j+n.toNat,f,out++zU1 (((lets s).drop j).take n.toNat),by rw [hto,z4M,bapp],by go_num,by omega,by omega,by omega,by simp only [List.length_append];omega,by rw [←List.drop_drop];exact hE.out,hbl⟩
          case measure=>simp [intOf];omega
  · have hE:Hid (z6V (s.size+1) [] ((lets s).drop (k+1))=none):=by
     rw [←hR.out,zgM (by omega)];cases f <;> exact rfl
    have hin':¬ (j:Int) < (s.size:Int):=by omega
    clear hR
    go_wp2
    go_ret2
    exact ⟨hbl,Or.inr ⟨hE.out,rfl⟩⟩

def hasP (c:Nat):List Nat→Bool
 | []=>false
 | x::t=>c == x||hasP c t

theorem has_any (s:ByteArray) (c:Nat) (w:World) (hs:s.size≤9000000) (_hc:c < 256):
 Calls Tryz.prog 104 #[.string s,.int .u8 c] w fun e w'=>e=.returned (.bool (hasP c (lets s)))∧w'=w:=by
 go_enter Tryz.func104,Tryz.ntmps104
 go_wp2
 go_loop [5] (fun i=>∃ (j:Nat),j≤s.size∧i=.int .i64 (j:Int)∧hasP c ((lets s).drop j)=hasP c (lets s)) (fun i=>s.size - (intOf i).toNat)
 case atStart=>exact ⟨0,by omega,by simp,rfl⟩
 case round=>
  obtain ⟨j,hj,rfl,HR⟩:=hrel
  have hR:Hid (hasP c ((lets s).drop j)=hasP c (lets s)):=HR
  clear HR
  by_cases hin:j < s.size
  · have hD:=zhG hin
    have hcb:(s[j]).toNat < 256:=(s[j]).toNat_lt
    have hin':(j:Int) < (s.size:Int):=by omega
    have hS:Hid (hasP c (lets s)=(c == (s[j]).toNat||hasP c ((lets s).drop (j+1)))):=by
     rw [←hR.out,hD,hasP];exact rfl
    clear hR hD
    by_cases hq:(s[j]).toNat=c
    · have hq':(((s[j]).toNat:Int) == (c:Int))=true:=by simp;omega
      have hE:Hid (hasP c (lets s)=true):=by rw [hS.out,hq];simp [Hid]
      clear hS
      go_wp2
      go_ret
      exact ⟨by rw [hE.out];rfl,rfl⟩
    · have hq':(((s[j]).toNat:Int) == (c:Int))=false:=by simp;omega
      have hE:Hid (hasP c ((lets s).drop (j+1))=hasP c (lets s)):=by rw [hS.out,show (c == (s[j]).toNat)=false by simp;omega];simp [Hid]
      clear hS
      go_wp2
      go_round
      case rel=>exact ⟨j+1,by omega,by go_num,hE.out⟩
      case measure=>simp [intOf];omega
  · have hE:Hid (hasP c (lets s)=false):=by rw [←hR.out,zgM (by omega)];exact rfl
    have hin':¬ (j:Int) < (s.size:Int):=by omega
    clear hR
    go_wp2
    go_ret
    exact ⟨by rw [hE.out];rfl,rfl⟩

def zlt:Int→List Nat→Option Int
 | n,[]=>some n
 | n,c::t=>if (c:Int) - 48 < 0∨9 < (c:Int) - 48 then none else if n < (-9223372036854775808+((c:Int) - 48)).tdiv 10 then none else zlt (10*n - ((c:Int) - 48)) t
def z8T (minus:Bool) (t:List Nat):Int×Bool:=
 if t.length < 1∨19 < t.length∨(1 < t.length∧t.headD 0=48) then (0,false)
 else match zlt 0 t with
  | none=>(0,false)
  | some n=>if minus then (n,true) else (if n= -9223372036854775808 then n else -n,decide (-9223372036854775808 < n))
def zyu (l:List Nat):Int×Bool:=if l.headD 0=45 then z8T true l.tail else z8T false l

theorem zQP {s:ByteArray} (h:0 < s.size):(lets s).headD 0=(s[0]).toNat:=by
 have:=zhG h
 rw [List.drop_zero] at this
 rw [this];rfl
theorem zSQ (s:ByteArray):(lets s).length=s.size:=by simp [lets]

theorem zZn {b:Bool} {t:ByteArray} (h:t.size < 1∨19 < t.size∨(1 < t.size∧∃ h:0 < t.size,(t[0]).toNat=48)):z8T b (lets t)=(0,false):=by
 rw [z8T,if_pos]
 rw [zSQ]
 rcases h with h | h | ⟨h,h',h''⟩
 · exact Or.inl h
 · exact Or.inr (Or.inl h)
 · exact Or.inr (Or.inr ⟨h,by rw [zQP h',h'']⟩)
theorem zB2 {b:Bool} {t:ByteArray} (h1:1≤t.size) (h2:t.size≤19) (h3:1 < t.size→(t[0]).toNat=48→False):z8T b (lets t)=match zlt 0 (lets t) with
 | none=>(0,false)
 | some n=>if b then (n,true) else (if n= -9223372036854775808 then n else -n,decide (-9223372036854775808 < n)):=by
 rw [z8T,if_neg]
 rw [zSQ]
 rintro (h | h | ⟨h,h'⟩)
 · omega
 · omega
 · rw [zQP (by omega)] at h'
   exact h3 h h'

theorem whole_any (s:ByteArray) (w:World) (hs:s.size≤9000000):
 Calls Tryz.prog 106 #[.string s] w fun e w'=>e=.returned (.tuple #[.int .i64 (zyu (lets s)).1,.bool (zyu (lets s)).2])∧w'=w:=by
 go_enter Tryz.func106,Tryz.ntmps106
 by_cases h0:0 < s.size
 · have h0':(s.size:Int) > 0:=by omega
   have hcb:(s[0]).toNat < 256:=(s[0]).toNat_lt
   by_cases hm:(s[0]).toNat=45
   · have hm':(((s[0]).toNat:Int) == 45)=true:=by simp;omega
     have hW0:Hid (zyu (lets s)=z8T true (lets s).tail):=by unfold zyu;rw [zQP h0,if_pos hm];exact rfl
     have htl:(lets s).tail=lets (s.extract 1 s.size):=by rw [lets,lets,Lib.extract_data,←List.map_tail,←List.drop_one,List.take_of_length_le (by simp)]
     have htz:(s.extract 1 s.size).size=s.size - 1:=by simp
     rw [htl] at hW0
     clear htl
     go_wp2
     all_goals (generalize s.extract 1 s.size=t at *)
     all_goals first
      | go_ret2
        refine ⟨?_,rfl⟩
        have hE:zyu (lets s)=(0,false):=by
         rw [hW0.out]
         apply zZn
         first
          | (left;omega)
          | (right;left;omega)
          | (right;right;refine ⟨by omega,by omega,?_⟩;rename_i hx;simp at hx;omega)
        rw [hE];rfl
      | skip
     all_goals
      have hW:Hid (zyu (lets s)=match zlt 0 (lets t) with | none=>(0,false) | some n=>(n,true)):=by
       rw [hW0.out,zB2]
       · exact rfl
       · omega
       · omega
       · intro hx1 hx2
         first | omega | (rename_i hx;simp at hx;omega)
     all_goals clear hW0
     all_goals
      go_loop [5,6] (fun n i=>∃ (j:Nat) (acc:Int),j≤t.size∧i=.int .i64 (j:Int)∧n=.int .i64 acc∧ -9223372036854775808≤acc∧acc≤0∧zlt acc ((lets t).drop j)=zlt 0 (lets t)) (fun _ i=>t.size - (intOf i).toNat)
      case atStart=>exact ⟨0,0,by omega,rfl,rfl,by omega,by omega,rfl⟩
      case round=>
       obtain ⟨j,acc,hj,rfl,rfl,ha0,ha1,HR⟩:=hrel
       have hR:Hid (zlt acc ((lets t).drop j)=zlt 0 (lets t)):=HR
       clear HR
       by_cases hin:j < t.size
       · have hD:=zhG hin
         have hcb2:(t[j]).toNat < 256:=(t[j]).toNat_lt
         have hin':(j:Int) < (t.size:Int):=by omega
         have hS:Hid (zlt 0 (lets t)=if ((t[j]).toNat:Int) - 48 < 0∨9 < ((t[j]).toNat:Int) - 48 then none else if acc < (-9223372036854775808+(((t[j]).toNat:Int) - 48)).tdiv 10 then none else zlt (10*acc - (((t[j]).toNat:Int) - 48)) ((lets t).drop (j+1))):=by
          rw [←hR.out,hD,zlt];exact rfl
         clear hR hD
         by_cases hd1:((t[j]).toNat:Int) - 48 < 0
         · have hE:Hid (zyu (lets s)=(0,false)):=by rw [hW.out,hS.out,if_pos (Or.inl hd1)];exact rfl
           clear hS hW
           go_wp2
           go_ret2
           exact ⟨by rw [hE.out];rfl,rfl⟩
         · by_cases hd2:9 < ((t[j]).toNat:Int) - 48
           · have hE:Hid (zyu (lets s)=(0,false)):=by rw [hW.out,hS.out,if_pos (Or.inr hd2)];exact rfl
             clear hS hW
             go_wp2
             go_ret2
             exact ⟨by rw [hE.out];rfl,rfl⟩
           · have hq:(-9223372036854775808+(((t[j]).toNat:Int) - 48)).tdiv 10= -((9223372036854775808 - (((t[j]).toNat:Int) - 48)) / 10):=by
              rw [show -9223372036854775808+(((t[j]).toNat:Int) - 48)= -(9223372036854775808 - (((t[j]).toNat:Int) - 48)) by omega,Int.neg_tdiv,Int.tdiv_eq_ediv_of_nonneg (by omega)]
             by_cases hd3:acc < (-9223372036854775808+(((t[j]).toNat:Int) - 48)).tdiv 10
             · have hE:Hid (zyu (lets s)=(0,false)):=by rw [hW.out,hS.out,if_neg (by omega),if_pos hd3];exact rfl
               clear hS hW
               go_wp2
               go_ret2
               exact ⟨by rw [hE.out];rfl,rfl⟩
             · have hE:Hid (zlt (10*acc - (((t[j]).toNat:Int) - 48)) ((lets t).drop (j+1))=zlt 0 (lets t)):=by rw [hS.out,if_neg (by omega),if_neg hd3];exact rfl
               have hb1: -9223372036854775808≤10*acc - (((t[j]).toNat:Int) - 48):=by omega
               have hb2: -9223372036854775808≤10*acc:=by omega
               clear hS
               go_wp2
               go_round
               case rel=>exact ⟨j+1,_,by omega,by go_num,by go_num,by omega,by omega,hE.out⟩
               case measure=>simp [intOf];omega
       · have hin':¬ (j:Int) < (t.size:Int):=by omega
         have hX:zlt 0 (lets t)=some acc:=by rw [←hR.out,zgM (by omega),zlt]
         clear hR
         have hE:Hid (zyu (lets s)=(acc,true)):=by rw [hW.out,hX];exact rfl
         clear hW hX
         go_wp2
         go_ret2
         exact ⟨by rw [hE.out];rfl,rfl⟩

   · have hm':(((s[0]).toNat:Int) == 45)=false:=by simp;omega
     have hW0:Hid (zyu (lets s)=z8T false (lets s)):=by unfold zyu;rw [zQP h0,if_neg hm];exact rfl
     go_wp2
     all_goals first
      | go_ret2
        refine ⟨?_,rfl⟩
        have hE:zyu (lets s)=(0,false):=by
         rw [hW0.out]
         apply zZn
         first
          | (left;omega)
          | (right;left;omega)
          | (right;right;refine ⟨by omega,by omega,?_⟩;rename_i hx;simp at hx;omega)
        rw [hE];rfl
      | skip
     all_goals
      have hW:Hid (zyu (lets s)=match zlt 0 (lets s) with | none=>(0,false) | some n=>(if n= -9223372036854775808 then n else -n,decide (-9223372036854775808 < n))):=by
       rw [hW0.out,zB2]
       · exact rfl
       · omega
       · omega
       · intro hx1 hx2
         first | omega | (rename_i hx;simp at hx;omega) | (rename_i hx _;simp at hx;omega) | (rename_i hx _ _;simp at hx;omega)
     all_goals clear hW0
     all_goals
      go_loop [5,6] (fun n i=>∃ (j:Nat) (acc:Int),j≤s.size∧i=.int .i64 (j:Int)∧n=.int .i64 acc∧ -9223372036854775808≤acc∧acc≤0∧zlt acc ((lets s).drop j)=zlt 0 (lets s)) (fun _ i=>s.size - (intOf i).toNat)
      case atStart=>exact ⟨0,0,by omega,rfl,rfl,by omega,by omega,rfl⟩
      case round=>
       obtain ⟨j,acc,hj,rfl,rfl,ha0,ha1,HR⟩:=hrel
       have hR:Hid (zlt acc ((lets s).drop j)=zlt 0 (lets s)):=HR
       clear HR
       by_cases hin:j < s.size
       · have hD:=zhG hin
         have hcb2:(s[j]).toNat < 256:=(s[j]).toNat_lt
         have hin':(j:Int) < (s.size:Int):=by omega
         have hS:Hid (zlt 0 (lets s)=if ((s[j]).toNat:Int) - 48 < 0∨9 < ((s[j]).toNat:Int) - 48 then none else if acc < (-9223372036854775808+(((s[j]).toNat:Int) - 48)).tdiv 10 then none else zlt (10*acc - (((s[j]).toNat:Int) - 48)) ((lets s).drop (j+1))):=by
          rw [←hR.out,hD,zlt];exact rfl
         clear hR hD
         by_cases hd1:((s[j]).toNat:Int) - 48 < 0
         · have hE:Hid (zyu (lets s)=(0,false)):=by rw [hW.out,hS.out,if_pos (Or.inl hd1)];exact rfl
           clear hS hW
           go_wp2
           go_ret2
           exact ⟨by rw [hE.out];rfl,rfl⟩
         · by_cases hd2:9 < ((s[j]).toNat:Int) - 48
           · have hE:Hid (zyu (lets s)=(0,false)):=by rw [hW.out,hS.out,if_pos (Or.inr hd2)];exact rfl
             clear hS hW
             go_wp2
             go_ret2
             exact ⟨by rw [hE.out];rfl,rfl⟩
           · have hq:(-9223372036854775808+(((s[j]).toNat:Int) - 48)).tdiv 10= -((9223372036854775808 - (((s[j]).toNat:Int) - 48)) / 10):=by
              rw [show -9223372036854775808+(((s[j]).toNat:Int) - 48)= -(9223372036854775808 - (((s[j]).toNat:Int) - 48)) by omega,Int.neg_tdiv,Int.tdiv_eq_ediv_of_nonneg (by omega)]
             by_cases hd3:acc < (-9223372036854775808+(((s[j]).toNat:Int) - 48)).tdiv 10
             · have hE:Hid (zyu (lets s)=(0,false)):=by rw [hW.out,hS.out,if_neg (by omega),if_pos hd3];exact rfl
               clear hS hW
               go_wp2
               go_ret2
               exact ⟨by rw [hE.out];rfl,rfl⟩
             · have hE:Hid (zlt (10*acc - (((s[j]).toNat:Int) - 48)) ((lets s).drop (j+1))=zlt 0 (lets s)):=by rw [hS.out,if_neg (by omega),if_neg hd3];exact rfl
               have hb1: -9223372036854775808≤10*acc - (((s[j]).toNat:Int) - 48):=by omega
               have hb2: -9223372036854775808≤10*acc:=by omega
               clear hS
               go_wp2
               go_round
               case rel=>exact ⟨j+1,_,by omega,by go_num,by go_num,by omega,by omega,hE.out⟩
               case measure=>simp [intOf];omega
       · have hin':¬ (j:Int) < (s.size:Int):=by omega
         have hX:zlt 0 (lets s)=some acc:=by rw [←hR.out,zgM (by omega),zlt]
         clear hR
         by_cases hmin:acc= -9223372036854775808
         · subst hmin
           have hE:Hid (zyu (lets s)=(-9223372036854775808,false)):=by rw [hW.out,hX];exact rfl
           clear hW hX
           go_wp2
           go_ret2
           rw [show wrap64 9223372036854775808= -9223372036854775808 by unfold wrap64;omega]
           exact ⟨by rw [hE.out];rfl,rfl⟩
         · have hE:Hid (zyu (lets s)=(-acc,true)):=by rw [hW.out,hX];simp [hmin,Hid];omega
           have hgt: -9223372036854775808 < acc:=by omega
           clear hW hX hmin
           go_wp2
           go_ret2
           exact ⟨by rw [hE.out];rfl,rfl⟩
 · have h0':¬ (s.size:Int) > 0:=by omega
   have hE:Hid (zyu (lets s)=(0,false)):=by
    rw [show lets s=[] from zgM (k:=0) (by omega)];exact rfl
   go_wp2
   go_ret2
   exact ⟨by rw [hE.out];rfl,rfl⟩
end Go.Proofs.YtbbkihekjdffpaaGreatDoor
