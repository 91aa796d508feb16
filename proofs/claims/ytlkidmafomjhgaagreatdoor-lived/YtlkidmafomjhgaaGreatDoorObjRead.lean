/- Several texts in one. -/
import Derived.Test.YtlkidmafomjhgaaGreatDoorScanZ
import Derived.Laws.IdiomStrings
import Derived.Lib.ParseIntBTie
namespace Go.Proofs.YtlkidmafomjhgaaGreatDoor
open Go.RowKit

def runesL (s:ByteArray):Nat→Nat→List Nat
 | 0,_=>[]
 | f+1,i=>if i < s.size then (Utf8.decode s i).1::runesL s f (i+(Utf8.decode s i).2) else []
def runesOf (s:ByteArray):List Nat:=runesL s s.size 0

theorem zLc (s:ByteArray):∀ (f i:Nat) (acc:Array Value),(Conv.runesFrom s f i acc).toList=acc.toList++(runesL s f i).map (fun r=>Value.int .i32 (Int.ofNat r)):=by
 intro f
 induction f with
 | zero=>intro i acc;simp [Conv.runesFrom,runesL]
 | succ f ih=>
   intro i acc
   unfold Conv.runesFrom runesL
   by_cases h:i < s.size
   · rw [if_pos h,if_pos h]
     simp only [ih]
     simp
   · rw [if_neg h,if_neg h];simp
theorem zu1 (s:ByteArray):(Conv.runesFrom s s.size 0 #[]).toList=(runesOf s).map (fun r=>Value.int .i32 (Int.ofNat r)):=by
 rw [zLc];simp [runesOf]
theorem zaO (s:ByteArray):(Conv.runesFrom s s.size 0 #[]).size=(runesOf s).length:=by
 rw [←Array.length_toList,zu1];simp
theorem z6B (s:ByteArray):∀ (f i:Nat),(runesL s f i).length≤f:=by
 intro f
 induction f with
 | zero=>intro i;simp [runesL]
 | succ f ih=>intro i;unfold runesL;split;simp;exact ih _;simp
theorem zGY (s:ByteArray):∀ (f i:Nat),∀ c∈runesL s f i,c≤2147483647:=by
 intro f
 induction f with
 | zero=>intro i c hc;simp [runesL] at hc
 | succ f ih=>
   intro i c hc
   unfold runesL at hc
   split at hc
   · simp at hc
     rcases hc with rfl | hc
     · exact decode_le s i
     · exact ih _ c hc
   · simp at hc
theorem z75 (s:ByteArray):(runesOf s).length≤s.size:=z6B s s.size 0
theorem zOJ (s:ByteArray):∀ c∈runesOf s,c≤2147483647:=zGY s s.size 0

def zIo (s:ByteArray):Option (List Mem):=
 if Lib.validD s.data.toList then (match zfb (zek (runesOf s)) with
  | none=>none
  | some (ms,r)=>if zek r=[] then some ms else none) else none

def Utf (w:World):Prop:=Lib.Utf8Tabs 3 4 w
theorem Utf.below {w w':World} (h:Utf w) (k:Below 9 w w'):Utf w':=by
 refine ⟨fun c hc=>?_,fun i hi=>⟨?_,?_⟩⟩
 · rw [k.cell (by show 3 < 9;omega)];exact h.1 c hc
 · rw [k.cell (by show 4 < 9;omega)];exact (h.2 i hi).1
 · rw [k.cell (by show 4 < 9;omega)];exact (h.2 i hi).2

theorem zZw (s:ByteArray) (w:World) (hs:s.size≤9223372036854775807) (hT:Utf w):
 Calls Tryz.prog 103 #[.string s] w fun e w'=>e=.returned (.bool (Lib.validD s.data.toList))∧Below w.heap.size w w':=
 Any.utf8_ValidString Tryz.laysValid s w hs hT

def zSS (s:ByteArray) (w:World) (e:Ending) (w':World):Prop:=
 Below w.heap.size w w'∧((∃ ms v,zIo s=some ms∧ms.length≤s.size∧w'.ownsRow w.heap.size 218 4 v ms.length (zLk ms)∧e=.returned (.tuple #[v,.bool true]))∨
  (zIo s=none∧e=.returned (.tuple #[.slice none 0 0,.bool false])))

theorem znz {rs:List Nat} {k:Nat} (h:k≤rs.length):rs.drop k=[]↔k=rs.length:=by
 rw [List.drop_eq_nil_iff];omega

set_option maxHeartbeats 2000000 in
theorem zVM (s:ByteArray) (w:World) (hs:s.size≤2000000) (he:Errs w) (hu:Utf w):
 Calls Tryz.prog 68 #[.string s] w fun e w'=>zSS s w e w':=by
 go_enter Tryz.func68,Tryz.ntmps68
 go_wp2_with fail
 refine (zZw s _ (by omega) hu).mono ?_
 rintro e w1 ⟨rfl,hb1⟩
 cases hv:Lib.validD s.data.toList with
 | false=>
   have HX:Hid (zIo s=none):=by unfold zIo;rw [hv];exact rfl
   clear hv
   go_wp2
   go_ret2
   exact ⟨hb1,Or.inr ⟨HX.out,rfl⟩⟩
 | true=>
   have HL:Hid (zIo s=(match zfb (zek (runesOf s)) with | none=>none | some (ms,r)=>if zek r=[] then some ms else none)):=by
    unfold zIo;rw [hv];exact rfl
   clear hv
   have hrl:=z75 s
   have hcv:=run_runes_of_string (P:=Tryz.prog) w1 9 211 21 s Tryz.underlying9 Tryz.underlying211 Tryz.underlying21 (by rw [zaO];omega)
   have hcap:=grownCap_ge w1 (Conv.runesFrom s s.size 0 #[]).size 0 21
   rw [zaO] at hcv hcap
   generalize grownCap w1 (runesOf s).length 0 21=cap at*
   have hrow:∀ i (h:i < (runesOf s).length),(Conv.runesFrom s s.size 0 #[]++Array.replicate (cap - (runesOf s).length) (.int .i32 0))[i]?=some (.int .i32 ((runesOf s)[i]:Int)):=by
    intro i h
    rw [Array.getElem?_append_left (by rw [zaO];exact h),←Array.getElem?_toList,zu1]
    simp [h]
   generalize Conv.runesFrom s s.size 0 #[]++Array.replicate (cap - (runesOf s).length) (.int .i32 0)=row at*
   have hbd:=zOJ s
   generalize runesOf s=rs at*
   have hz1:=hb1.size
   have hew:=he.lt
   have hS0:Scan ((w1.alloc (.cells row 21)).alloc (.cells #[.slice (some ⟨w1.heap.size,0,none⟩) rs.length cap,.int .i64 0] 213)).drew (w1.heap.size+1) w1.heap.size cap rs 0:=by
    refine ⟨?_,⟨row,21,(0,0),?_,hrow⟩,by omega,by omega,by omega,hbd,hcap⟩
    · show ((w1.heap.push _).push _)[w1.heap.size+1]?=_
      rw [Array.getElem?_push,if_pos (by simp)];rfl
    · show ((w1.heap.push _).push _)[w1.heap.size]?=_
      rw [Array.getElem?_push,if_neg (by simp),Array.getElem?_push,if_pos rfl]
   have hK0:Below w.heap.size w ((w1.alloc (.cells row 21)).alloc (.cells #[.slice (some ⟨w1.heap.size,0,none⟩) rs.length cap,.int .i64 0] 213)).drew:=((hb1.alloc hz1 _).alloc (by simp;omega) _).drew
   have hsz0:w1.heap.size+2≤((w1.alloc (.cells row 21)).alloc (.cells #[.slice (some ⟨w1.heap.size,0,none⟩) rs.length cap,.int .i64 0] 213)).drew.heap.size:=by simp [World.drew]
   clear hrow hbd
   go_wp2_with fail
   clear hcv
   generalize ((w1.alloc (.cells row 21)).alloc (.cells #[.slice (some ⟨w1.heap.size,0,none⟩) rs.length cap,.int .i64 0] 213)).drew=W0 at*
   refine (zn7 (w1.heap.size+1) w1.heap.size cap 0 rs _ hS0).mono ?_
   rintro e w2 ⟨rfl,k2,hk2,_,g1,g2⟩
   have b2:Below w.heap.size w w2:=hK0.trans (g2.below (by omega) (by simp;omega))
   have z2:=g2.size
   have HK2:Hid (rs.drop k2=zek rs):=by rw [hk2];simp [Hid]
   clear hk2 g2 hS0 hK0
   have e2:Errs w2:=he.below (b2.mono hew)
   go_wp2_with fail
   refine (zRN (w1.heap.size+1) w1.heap.size cap k2 rs _ g1 e2 (by omega)).mono ?_
   rintro e w3 ⟨k3,g3,g4,⟨ms,v,hm,hml,hown,rfl⟩ | ⟨hm,rfl⟩⟩
   all_goals
    have b3:Below w.heap.size w w3:=b2.trans (g4.below (by omega) (by simp;omega))
    have z3:=g4.size
    clear g4 g1 b2 e2
   · have HM:Hid (zIo s=if zek (rs.drop k3)=[] then some ms else none):=by
      rw [HL.out,←HK2.out,hm];exact rfl
     clear hm HL HK2
     go_wp2_with fail
     refine (zn7 (w1.heap.size+1) w1.heap.size cap k3 rs _ g3).mono ?_
     rintro e w4 ⟨rfl,k4,hk4,hk34,g5,g6⟩
     have b4:Below w.heap.size w w4:=b3.trans (g6.below (by omega) (by simp;omega))
     have o4:=zzF hown g6 (by simp;omega)
     have c0:=g5.c0
     have c1:=g5.c1
     have hle:=g5.le
     by_cases hend:k4 < rs.length
     · have HX:Hid (zIo s=none):=by
        rw [HM.out,if_neg (by rw [←hk4,znz hle];omega)];exact rfl
       have hlt:(k4:Int) < (rs.length:Int):=by omega
       clear HM hk4 g6 b3 g3 hown o4
       go_wp2
       go_ret2
       exact ⟨b4,Or.inr ⟨HX.out,rfl⟩⟩
     · have HX:Hid (zIo s=some ms):=by
        rw [HM.out,if_pos (by rw [←hk4,znz hle];omega)];exact rfl
       have hlt:¬ (k4:Int) < (rs.length:Int):=by omega
       clear HM hk4 g6 b3 g3 hown
       go_wp2
       go_ret2
       refine ⟨b4,Or.inl ⟨ms,v,HX.out,by omega,⟨o4.1,?_⟩,rfl⟩⟩
       rcases o4.2 with hn | ⟨g,cap',cur,hv,hbg,hg,rest⟩
       · exact .inl hn
       · exact .inr ⟨g,cap',cur,hv,by omega,hg,rest⟩
   · have HX:Hid (zIo s=none):=by rw [HL.out,←HK2.out,hm];exact rfl
     clear hm HL HK2
     go_wp2_with fail
     refine (zn7 (w1.heap.size+1) w1.heap.size cap k3 rs _ g3).mono ?_
     rintro e w4 ⟨rfl,k4,hk4,hk34,g5,g6⟩
     have b4:Below w.heap.size w w4:=b3.trans (g6.below (by omega) (by simp;omega))
     clear hk4 g6 b3 g3
     go_wp2
     go_ret2
     exact ⟨b4,Or.inr ⟨HX.out,rfl⟩⟩

def zhZ (N:Nat) (m:Mem):Prop:=m.1.length≤4*N∧ -9223372036854775808≤m.2.2.1∧m.2.2.1≤9223372036854775807

theorem zsf (f:Nat):∀ (acc:List UInt8) (l:List Nat) (v:List UInt8) (r:List Nat),z9u f acc l=some (v,r)→v.length≤acc.length+4*l.length:=by
 induction f with
 | zero=>intro acc l v r h;cases l <;> simp [z9u] at h
 | succ f ih=>
   intro acc l v r h
   cases l with
   | nil=>simp [z9u] at h
   | cons c t=>
     have h4:∀ x:Int,(Lib.encodeRune x).length≤4:=fun x=>by
      have:=Lib.runeCells_le x;rw [Lib.runeCells_length] at this;omega
     unfold z9u at h
     split at h
     · simp at h;rw [←h.1];omega
     · split at h
       · cases h
       · split at h
         · split at h
           · cases h
           · rename_i v' n' _
             have:=ih _ _ _ _ h
             have e1:=h4 v'
             simp at this ⊢;omega
         · have:=ih _ _ _ _ h
           have e1:=h4 c
           simp at this ⊢;omega
theorem zfr {l:List Nat} {v:List UInt8} {r:List Nat} (h:zgn l=some (v,r)):v.length≤4*l.length:=by
 cases l with
 | nil=>cases h
 | cons c t=>
   by_cases hc:((c:Int) == 34)=true
   · rw [zgn,if_pos hc] at h
     have:=zsf _ _ _ _ _ h;simp at this ⊢;omega
   · rw [zgn,if_neg hc] at h;cases h
theorem zam {l:List Nat} {v:Int×Int×List UInt8} {r:List Nat} (h:zFD l=some (v,r)): -9223372036854775808≤v.2.1∧v.2.1≤9223372036854775807:=by
 unfold zFD at h
 split at h
 · split at h
   · simp at h;rw [←h.1];exact ⟨by show (-9223372036854775808:Int)≤0;decide,by show (0:Int)≤9223372036854775807;decide⟩
   · cases h
 · split at h
   · split at h
     · simp at h;rw [←h.1];exact ⟨by decide,by decide⟩
     · cases h
   · split at h
     · split at h
       · simp at h;rw [←h.1];exact ⟨by decide,by decide⟩
       · cases h
     · split at h
       · split at h
         · simp at h;rw [←h.1];exact ⟨by decide,by decide⟩
         · cases h
       · split at h
         · rename_i n r' hi
           simp at h
           unfold intP at hi
           split at hi
           · rename_i v' hp
             simp at hi
             have hb:=Lib.parseIntB_bounds hp
             rw [←h.1]
             show -9223372036854775808≤n∧n≤9223372036854775807
             rw [←hi.1]
             have e:((2 ^ (64 - 1):Nat):Int)=9223372036854775808:=by decide
             rw [e] at hb
             omega
           · cases hi
         · cases h
theorem z2C {l:List Nat} {m:Mem} {r:List Nat} {N:Nat} (hl:l.length≤N) (h:zcL l=some (m,r)):zhZ N m:=by
 unfold zcL at h
 split at h
 · cases h
 · rename_i nm r1 ht
   split at h
   · split at h
     · cases h
     · rename_i v r4 hv
       simp at h
       have h1:=zfr ht
       have h2:=zam hv
       rw [←h.1]
       exact ⟨by show nm.length≤4*N;omega,h2.1,h2.2⟩
   · cases h
theorem zD8 (N f:Nat):∀ (acc:List Mem) (l:List Nat) (ms:List Mem) (r:List Nat),l.length≤N→(∀ m∈acc,zhZ N m)→zQf f acc l=some (ms,r)→∀ m∈ms,zhZ N m:=by
 induction f with
 | zero=>intro acc l ms r _ _ h;simp [zQf] at h
 | succ f ih=>
   intro acc l ms r hl ha h
   rw [zQf] at h
   split at h
   · cases h
   · rename_i m r1 hm
     have hg:=z2C hl hm
     have hr1:=zVf hm
     have ha':∀ x∈acc++[m],zhZ N x:=by
      intro x hx
      rcases List.mem_append.1 hx with h' | h'
      · exact ha x h'
      · simp at h';rw [h'];exact hg
     split at h
     · simp at h;rw [←h.1];exact ha'
     · split at h
       · refine ih _ _ _ _ ?_ ha' h
         have:=zH7 r1.tail
         simp at this
         omega
       · cases h
theorem zau {s:ByteArray} {ms:List Mem} (h:zIo s=some ms):∀ m∈ms,zhZ s.size m:=by
 unfold zIo at h
 split at h
 · split at h
   · cases h
   · rename_i ms' r ho
     split at h
     · simp at h
       subst h
       unfold zfb at ho
       have hr:=z75 s
       have h1:=zH7 (runesOf s)
       split at ho
       · split at ho
         · simp at ho;rw [ho.1];intro m hm;cases hm
         · refine zD8 s.size _ [] _ _ _ ?_ (by simp) ho
           have:=zH7 (zek (runesOf s)).tail
           simp at this
           omega
       · cases ho
     · cases h
 · cases h
end Go.Proofs.YtlkidmafomjhgaaGreatDoor
