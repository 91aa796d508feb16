/- Several texts in one. -/
import Derived.Test.YtoeoinpaidhmcaaGreatDoorScanY
import Derived.Laws.IdiomStrings
import Derived.Lib.ParseIntBTie
import Derived.Maps.OwnOps
import Derived.Maps.OwnSet
namespace Go.Proofs.YtoeoinpaidhmcaaGreatDoor
open Go.RowKit
def zRf:Nat→List Mem→List Nat→Option (List Mem×List Nat)
 |0,_,_=>none
 |f+1,acc,l=>match zcL l with
   |none=>none
   |some (m,r)=>if(zEH r==125)then some (acc++[m],r.tail)else if(zEH r==44)then zRf f (acc++[m]) (zek r.tail)else none
def zfb (l:List Nat):Option (List Mem×List Nat):=
 if(zEH l==123)then(if(zEH (zek l.tail)==125)then some ([],(zek l.tail).tail)else zRf (l.length+1) [] (zek l.tail))else none
theorem zH7 (l:List Nat):(zek l).length≤l.length:=by
 induction l with
 |nil=>simp[zek]
 |cons c t ih=>unfold zek;split<;>simp;omega
theorem z6c (l:List Nat):(zva l).length≤l.length:=by
 induction l with
 |nil=>simp[zva]
 |cons c t ih=>unfold zva;split<;>simp;omega
theorem zAt (f:Nat):∀(a:List UInt8) (l:List Nat) (v:List UInt8) (r:List Nat),z9u f a l=some (v,r)→r.length<l.length:=by
 induction f with
 |zero=>intro a l v r h;cases l<;>simp[z9u]at h
 |succ f ih=>
   intro a l v r h;cases l with
   |nil=>simp[z9u]at h
   |cons c t=>
     unfold z9u at h;split at h
     ·simp at h;rw[←h.2];simp
     ·split at h
      ·cases h
      ·split at h
       ·split at h
        ·cases h
        ·have:=ih _ _ _ _ h;simp at this⊢;omega
       ·have:=ih _ _ _ _ h;simp at this⊢;omega
theorem zf7 {l:List Nat}{v:List UInt8}{r:List Nat}(h:zhn l=some (v,r)):r.length<l.length:=by
 cases l with
 |nil=>cases h
 |cons c t=>
   by_cases hc:((c:Int)==34)=true
   ·rw[zhn,if_pos hc]at h;have:=zAt _ _ _ _ _ h;simp;omega
   ·rw[zhn,if_neg hc]at h;cases h
theorem zg0 (l:List Nat):(zDE l).length≤l.length:=by
 unfold zDE;have a:∀m:List Nat,m.length≤l.length→(if zEH m=48 then m.tail else zva m).length≤l.length:=by
  intro m b;split
  ·simp;omega
  ·exact Nat.le_trans (z6c m) b
 split
 ·exact a _ (by simp)
 ·exact a _ zH
theorem zHG {l:List Nat}{v:Int×Int×List UInt8}{r:List Nat}(h:zFD l=some (v,r)):r.length≤l.length:=by
 unfold zFD at h;split at h
 ·split at h
  ·rename_i t r' ht;simp at h;have:=zf7 ht;rw[←h.2];omega
  ·cases h
 ·split at h
  ·split at h
   ·simp at h;rw[←h.2];simp
   ·cases h
  ·split at h
   ·split at h
    ·simp at h;rw[←h.2];simp
    ·cases h
   ·split at h
    ·split at h
     ·simp at h;rw[←h.2];simp
     ·cases h
    ·split at h
     ·rename_i n r' hi;simp at h;unfold intP at hi;split at hi
      ·simp at hi;rw[←h.2,←hi.2];exact zg0 l
      ·cases hi
     ·cases h
theorem zVf {l:List Nat}{m:Mem}{r:List Nat}(h:zcL l=some (m,r)):r.length<l.length:=by
 unfold zcL at h;split at h
 ·cases h
 ·rename_i nm r1 ht;split at h
  ·split at h
   ·cases h
   ·rename_i v r4 hv;simp at h;have b:=zf7 ht;have g:=zHG hv;have e:=zH7 r4;have a:=zH7 (zek r1).tail;have d:=zH7 r1;simp at a;rw[←h.2];omega
  ·cases h
def zIS (m:Mem):List Value:=[.string ⟨m.1.toArray⟩,.int .i64 m.2.1,.int .i64 m.2.2.1,.string ⟨m.2.2.2.toArray⟩]
def zLk (l:List Mem):List Value:=l.flatMap zIS
theorem zri (w:World)(a b c d:Value)(t:TypeId):∀j u,[a,b,c,d][j]?=some u→(w.alloc (.cells #[a,b,c,d] t)).cell? ((⟨w.heap.size,0,none⟩:Addr).add j)=some u:=by
 intro j u e
 match j,e with
 |0,e=>simp at e;subst e;simp[Addr.add]
 |1,e=>simp at e;subst e;simp[Addr.add]
 |2,e=>simp at e;subst e;simp[Addr.add]
 |3,e=>simp at e;subst e;simp[Addr.add]
theorem zzF {S:List Nat}{w w':World}{a:Nat}{e:TypeId}{b:Nat}{v:Value}{n:Nat}{d:List Value}(h:w.ownsRow a e b v n d)(k:Kept S w w')(i:∀x∈S,x<a):w'.ownsRow a e b v n d:=by
 refine⟨h.1,?_⟩;rcases h.2 with hn|⟨g,cap,cur,hv,hbg,hg,rest⟩
 ·exact .inl hn
 ·have j:g∉S:=fun hm=>by have:=i g hm;omega
  exact .inr ⟨g,cap,cur,hv,hbg,(k.block g (zBq hg) j).trans hg,rest⟩
theorem zNV:(Tryz.prog.info? 173).map (fun i=>(i.zero,i.size,i.bytes))=some (some (.agg #[.string ⟨#[]⟩,.int .i64 0,.int .i64 0,.string ⟨#[]⟩]),4,48):=by kernel_rfl
open Tryz
def zY3 (b rb cap k:Nat)(rs:List Nat)(w:World)(e:Ending)(w':World):Prop:=
 ∃k',Scan w' b rb cap rs k'∧Kept [b] w w'∧((∃ms v,zfb (rs.drop k)=some (ms,rs.drop k')∧ms.length≤k'∧w'.ownsRow w.heap.size 173 4 v ms.length (zLk ms)∧e=.returned (.tuple #[v,.bool true]))∨
  (zfb (rs.drop k)=none∧e=.returned (.tuple #[.slice none 0 0,.bool false])))
theorem z7d (l:List Mem)(m:Mem):zLk (l++[m])=zLk l++zIS m:=by simp[zLk]
theorem Scan.grown {w w':World}{b a i k B:Nat}{n:List Nat}{j:Option Nat}(h:Scan w b a i n k)(l:w.grownBy w' j)(m:∀g,j=some g→B≤g)(q:b<B)(p:a<B):Scan w' b a i n k:=by
 obtain⟨c,t,f,d,o⟩:=h.row;exact⟨by rw[l.block b (zBq h.blk) (fun e=>by have:=m b e.symm;omega)];exact h.blk,
  ⟨c,t,f,by rw[l.block a (zBq d) (fun e=>by have:=m a e.symm;omega)];exact d,o⟩,h.ne,h.le,h.small,h.bd,h.room⟩
theorem Kept.grown {S:List Nat}{a w w':World}{d:Option Nat}(h:Kept S a w)(b:w.grownBy w' d)(j:∀g,d=some g→a.heap.size≤g):Kept S a w':=
 ⟨b.os.trans h.os,b.tape.trans h.tape,b.output.trans h.output,Nat.le_trans h.size b.size,fun i hi hn=>
  (b.block i (zI hi h.size) (fun e=>by have:=j i e.symm;omega)).trans (h.block i hi hn)⟩
theorem zYv {w:World}{a:Nat}{e:TypeId}{b:Nat}{v:Value}{n:Nat}{d:List Value}(h:w.ownsRow a e b v n d):∀g,v.ownBlock=some g→a≤g:=fun g hg=>(h.lt g hg).1
set_option maxHeartbeats 2000000 in
theorem zph (b i d k:Nat)(a:List Nat)(w:World)(Y:Scan w b i d a k)(he:Errs w)(hb:10≤b)(O:zEH (a.drop k)=123):
 Calls prog 85 #[.pointer (some ⟨b,0,none⟩)] w fun e w'=>zY3 b i d k a w e w':=by
 have ab:=Y.bLt;have ad:=Y.rbLt;have an:=he.lt;have ao:=znY O (by omega);have M:Hid (zfb (a.drop k)=if(zEH (zek (a.drop (k+1)))==125)then some ([],(zek (a.drop (k+1))).tail)else zRf (a.length-k+1) [] (zek (a.drop (k+1)))):=by
  unfold zfb;rw[O,tail_drop,List.length_drop];exact rfl
 go_enter func85,ntmps85;go_wp2_with fail;refine(z8M b i d k a 123 _ Y O (by omega)).mono ?_;rintro e w1 ⟨rfl,g1,q1⟩;clear O;go_wp2_with fail;refine(zn7 b i d (k+1) a _ g1).mono ?_;rintro e w2 ⟨rfl,y,B,aj,P,g4⟩;have q2:=q1.trans g4;clear g4 g1 q1;by_cases hc:zEH (a.drop y)=125
 ·have l:Hid (zfb (a.drop k)=some ([],a.drop (y+1))):=by
   rw[M.out,←B,hc,tail_drop];exact rfl
  go_wp2_with fail;refine(z8M b i d y a 125 _ P hc (by omega)).mono ?_;rintro e w3 ⟨rfl,K,G⟩;clear hc B M;go_wp2;go_ret2;exact⟨y+1,K,q2.trans G,Or.inl ⟨[],.slice none 0 0,l.out,by simp,World.ownsRow_nil _ _ _ _,rfl⟩⟩
 ·have HR:Hid (zfb (a.drop k)=zRf (a.length-k+1) [] (a.drop y)):=by
   rw[M.out,←B,if_neg (by simp[hc])];exact rfl
  go_wp2_with fail;refine(zZ5 b i d y a 125 _ P hc).mono ?_;rintro e w3 ⟨rfl,n3,rfl⟩;have K:=P.drewN n3;have q3:=q2.drewN n3;clear hc B M P q2;go_wp2;go_loopw [4] (fun v wr=>∃(j f:Nat) (h:List Mem),zRf f h (a.drop j)=zfb (a.drop k)∧a.length+1≤j+f∧h.length≤j∧wr.ownsRow w.heap.size 173 4 v h.length (zLk h)∧Scan wr b i d a j∧Kept [b] w wr) (fun _ wr=>a.length-z3F wr b)
  case atStart=>
   exact⟨y,a.length-k+1,[],HR.out.symm,by omega,by simp,World.ownsRow_nil _ _ _ _,K,q3⟩
  case round=>
   obtain⟨i0,hi,ae,af,aa⟩:=info_parts zNV;obtain⟨j,f,h,HJ,hf,ak,J,C,H⟩:=hrel;have R:Hid (zRf f h (a.drop j)=zfb (a.drop k)):=HJ;clear HJ HR K q3;have am:=C.small;have ai:=C.le;obtain⟨f,rfl⟩:∃f',f=f'+1:=⟨f-1,by omega⟩;have eJ:Errs wr:=he.kept H (by simpa using hb);go_wp2_with fail;refine(zam b i d j a _ C eJ hb).mono ?_;rintro e w4 ⟨g,G,V,⟨m,E,rfl⟩|⟨E,m,rfl⟩⟩
   all_goals
    have N:=H.trans V;have W:=zzF J V (by simp;omega);clear H V J eJ;obtain⟨s,q,r,p⟩:=m;unfold aggM
   ·have Z:=zVf E;simp at Z;have D:Hid (zfb (a.drop k)=if(zEH (a.drop g)==125)then some (h++[(s,q,r,p)],(a.drop g).tail)else if(zEH (a.drop g)==44)then zRf f (h++[(s,q,r,p)]) (zek (a.drop g).tail)else none):=by
     rw[←R.out,zRf,E];exact rfl
    clear E R;have al:=N.size;go_wp2_with (at_builtin;refine wpList_append_own _ rfl _ _ 108 rfl w.heap.size 173 i0 (.agg #[.string ⟨#[]⟩,.int .i64 0,.int .i64 0,.string ⟨#[]⟩]) 4 48 underlying108 hi ae af aa rfl (by decide) _ _ _ rfl ((W.alloc _).alloc _) ⟨w4.heap.size+1,0,none⟩ 1 1 (zIS (s,q,r,p)) rfl rfl ?c1 ?c2 ?c3 ?c4 ?c5 ?_)
    case c1=>
     have:=zri (w4.alloc (.cells #[.string ⟨s.toArray⟩,.int .i64 q,.int .i64 r,.string ⟨p.toArray⟩] 173)) (.string ⟨s.toArray⟩) (.int .i64 q) (.int .i64 r) (.string ⟨p.toArray⟩) 173;simpa [zIS]using this
    case c2=>
     intro u hu;simp[zIS]at hu;rcases hu with rfl|rfl|rfl|rfl<;>rfl
    case c3=>unfold maxLen;omega
    case c4=>omega
    case c5=>simp;omega
    intro v5 X z o _;have A:=zYv W;have x:Scan X b i d a g:=((G.alloc _).alloc _).grown o A ab ad;have Q:Kept [b] w X:=((N.alloc _).alloc _).grown o A;rw[←z7d]at z;have t:X.ownsRow w.heap.size 173 4 v5 (h++[(s,q,r,p)]).length (zLk (h++[(s,q,r,p)])):=(by simpa using z);have aq:(h++[(s,q,r,p)]).length≤g:=(by simp;omega);clear z o A N W G;generalize h++[(s,q,r,p)]=acc' at*;by_cases h1:zEH (a.drop g)=125
    ·have l:Hid (zfb (a.drop k)=some (acc',a.drop (g+1))):=(by rw[D.out,h1,tail_drop];exact rfl);go_wp2_with fail;refine(z8M b i d g a 125 _ x h1 (by omega)).mono ?_;rintro e w6 ⟨rfl,L,n⟩;have o7:=zzF t n (by simp;omega);clear h1 D;go_wp2;go_ret2;exact⟨g+1,L,Q.trans n,Or.inl ⟨acc',v5,l.out,by omega,o7,rfl⟩⟩
    ·by_cases h2:zEH (a.drop g)=44
     ·have l:Hid (zfb (a.drop k)=zRf f acc' (zek (a.drop (g+1)))):=(by rw[D.out,if_neg (by simp[h1]),h2,tail_drop];exact rfl);have ar:=znY h2 (by omega);go_wp2_with fail;refine(zZ5 b i d g a 125 _ x h1).mono ?_;rintro e w6 ⟨rfl,F,rfl⟩;go_wp2_with fail;refine(z8M b i d g a 44 _ (x.drewN F) h2 (by omega)).mono ?_;rintro e w7 ⟨rfl,L,n⟩;clear h1 h2 D;go_wp2_with fail;refine(zn7 b i d (g+1) a _ L).mono ?_;rintro e w8 ⟨rfl,k8,U,ah,S,I⟩;have o8:=zzF (zzF (zzF t ((Kept.refl [b] _).drewN F) (by simp;omega)) n (by simp;omega)) I (by simp;omega);have q8:=((Q.drewN F).trans n).trans I;have ag:Hid (zRf f acc' (a.drop k8)=zfb (a.drop k)):=(by rw[l.out,U];exact rfl);clear l U L n I t Q x;go_wp2;go_roundw
      case rel=>exact⟨k8,f,acc',ag.out,by omega,by omega,o8,S,q8⟩
      case measure=>rw[S.place,C.place];omega
     ·have l:Hid (zfb (a.drop k)=none):=(by rw[D.out,if_neg (by simp[h1]),if_neg (by simp[h2])];exact rfl);go_wp2_with fail;refine(zZ5 b i d g a 125 _ x h1).mono ?_;rintro e w6 ⟨rfl,F,rfl⟩;go_wp2_with fail;refine(zZ5 b i d g a 44 _ (x.drewN F) h2).mono ?_;rintro e w7 ⟨rfl,n7,rfl⟩;clear h1 h2 D;go_wp2;go_ret2;exact⟨g,x.drewN _,Q.drewN _,Or.inr ⟨l.out,rfl⟩⟩
   ·have l:Hid (zfb (a.drop k)=none):=(by rw[←R.out,zRf,E];exact rfl);clear E R;go_wp2;go_ret2;exact⟨g,G.alloc _,N.alloc _,Or.inr ⟨l.out,rfl⟩⟩
theorem zRN (b g a k:Nat)(d:List Nat)(w:World)(h:Scan w b g a d k)(j:Errs w)(i:10≤b):
 Calls prog 85 #[.pointer (some ⟨b,0,none⟩)] w fun e w'=>zY3 b g a k d w e w':=by
 by_cases hp:zEH (d.drop k)=123
 ·exact zph b g a k d w h j i hp
 ·have l:Hid (zfb (d.drop k)=none):=by unfold zfb;rw[if_neg (by simp[hp])];exact rfl
  go_enter func85,ntmps85;go_wp2_with fail;refine(zZ5 b g a k d 123 _ h hp).mono ?_;rintro e m ⟨rfl,n,rfl⟩;clear hp;go_wp2;go_ret2;exact⟨k,h.drewN _,(Kept.refl _ _).drewN _,Or.inr ⟨l.out,rfl⟩⟩
def runesL (s:ByteArray):Nat→Nat→List Nat
 |0,_=>[]
 |f+1,i=>if i<s.size then(Utf8.decode s i).1::runesL s f (i+(Utf8.decode s i).2)else []
def runesOf (s:ByteArray):List Nat:=runesL s s.size 0
theorem zKc (s:ByteArray):∀(f i:Nat) (a:Array Value),(Conv.runesFrom s f i a).toList=a.toList++(runesL s f i).map (fun r=>Value.int .i32 (Int.ofNat r)):=by
 intro f
 induction f with
 |zero=>intro i a;simp[Conv.runesFrom,runesL]
 |succ f ih=>
   intro i a;unfold Conv.runesFrom runesL;by_cases h:i<s.size
   ·rw[if_pos h,if_pos h];simp only [ih];simp
   ·rw[if_neg h,if_neg h];simp
theorem zv1 (s:ByteArray):(Conv.runesFrom s s.size 0 #[]).toList=(runesOf s).map (fun r=>Value.int .i32 (Int.ofNat r)):=by
 rw[zKc];simp[runesOf]
theorem zaO (s:ByteArray):(Conv.runesFrom s s.size 0 #[]).size=(runesOf s).length:=by
 rw[←Array.length_toList,zv1];simp
theorem z6B (s:ByteArray):∀(f i:Nat),(runesL s f i).length≤f:=by
 intro f
 induction f with
 |zero=>intro i;simp[runesL]
 |succ f ih=>intro i;unfold runesL;split;simp;exact ih _;simp
theorem zGY (s:ByteArray):∀(f i:Nat),∀c∈runesL s f i,c≤2147483647:=by
 intro f
 induction f with
 |zero=>intro i c a;simp[runesL]at a
 |succ f ih=>
   intro i c a;unfold runesL at a;split at a
   ·simp at a;rcases a with rfl|a
    ·exact decode_le s i
    ·exact ih _ c a
   ·simp at a
theorem z75 (s:ByteArray):(runesOf s).length≤s.size:=z6B s s.size 0
theorem zOJ (s:ByteArray):∀c∈runesOf s,c≤2147483647:=zGY s s.size 0
def zIo (s:ByteArray):Option (List Mem):=
 if Lib.validD s.data.toList then(match zfb (zek (runesOf s))with
  |none=>none
  |some (ms,r)=>if zek r=[]then some ms else none)else none
def Utf (w:World):Prop:=Lib.Utf8Tabs 3 4 w
theorem Utf.below {w w':World}(h:Utf w)(k:Below 10 w w'):Utf w':=by
 refine⟨fun c hc=>?_,fun i hi=>⟨?_,?_⟩⟩
 ·rw[k.cell (by show 3<10;omega)];exact h.1 c hc
 ·rw[k.cell (by show 4<10;omega)];exact(h.2 i hi).1
 ·rw[k.cell (by show 4<10;omega)];exact(h.2 i hi).2
theorem zZw (s:ByteArray)(w:World)(b:s.size≤9223372036854775807)(a:Utf w):
 Calls prog 83 #[.string s] w fun e w'=>e=.returned (.bool (Lib.validD s.data.toList))∧Below w.heap.size w w':=
 Any.utf8_ValidString Tryz.laysValid s w b a
def zSS (s:ByteArray)(w:World)(e:Ending)(w':World):Prop:=
 Below w.heap.size w w'∧((∃ms v,zIo s=some ms∧ms.length≤s.size∧w'.ownsRow w.heap.size 173 4 v ms.length (zLk ms)∧e=.returned (.tuple #[v,.bool true]))∨
  (zIo s=none∧e=.returned (.tuple #[.slice none 0 0,.bool false])))
theorem znz {a:List Nat}{k:Nat}(h:k≤a.length):a.drop k=[]↔k=a.length:=by
 rw[List.drop_eq_nil_iff];omega
set_option maxHeartbeats 2000000 in
theorem zVM (s:ByteArray)(w:World)(hs:s.size≤2000000)(W:Errs w)(Y:Utf w):
 Calls prog 44 #[.string s] w fun e w'=>zSS s w e w':=by
 go_enter func44,ntmps44;go_wp2_with fail;refine(zZw s _ (by omega) Y).mono ?_;rintro e a ⟨rfl,t⟩;cases hv:Lib.validD s.data.toList with
 |false=>
   have j:Hid (zIo s=none):=(by unfold zIo;rw[hv];exact rfl);clear hv;go_wp2;go_ret2;exact⟨t,Or.inr ⟨j.out,rfl⟩⟩
 |true=>
   have HL:Hid (zIo s=(match zfb (zek (runesOf s))with|none=>none|some (n,r)=>if zek r=[]then some n else none)):=by
    unfold zIo;rw[hv];exact rfl
   clear hv;have ab:=z75 s;have D:=run_runes_of_string (P:=prog) a 9 166 21 s underlying9 underlying166 underlying21 (by rw[zaO];omega);have u:=grownCap_ge a (Conv.runesFrom s s.size 0 #[]).size 0 21;rw[zaO]at D u;generalize grownCap a (runesOf s).length 0 21=cap at*;have o:∀i (h:i<(runesOf s).length),(Conv.runesFrom s s.size 0 #[]++Array.replicate (cap-(runesOf s).length) (.int .i32 0))[i]?=some (.int .i32 ((runesOf s)[i]:Int)):=by
    intro i h;rw[Array.getElem?_append_left (by rw[zaO];exact h),←Array.getElem?_toList,zv1];simp[h]
   generalize Conv.runesFrom s s.size 0 #[]++Array.replicate (cap-(runesOf s).length) (.int .i32 0)=row at*;have E:=zOJ s;generalize runesOf s=rs at*;have Q:=t.size;have X:=W.lt;have C:Scan ((a.alloc (.cells row 21)).alloc (.cells #[.slice (some ⟨a.heap.size,0,none⟩) rs.length cap,.int .i64 0] 168)).drew (a.heap.size+1) a.heap.size cap rs 0:=by
    refine⟨?_,⟨row,21,(0,0),?_,o⟩,by omega,by omega,by omega,E,u⟩
    ·show((a.heap.push _).push _)[a.heap.size+1]?=_;rw[Array.getElem?_push,if_pos (by simp)];rfl
    ·show((a.heap.push _).push _)[a.heap.size]?=_;rw[Array.getElem?_push,if_neg (by simp),Array.getElem?_push,if_pos rfl]
   have B:Below w.heap.size w ((a.alloc (.cells row 21)).alloc (.cells #[.slice (some ⟨a.heap.size,0,none⟩) rs.length cap,.int .i64 0] 168)).drew:=((t.alloc Q _).alloc (by simp;omega) _).drew;have aa:a.heap.size+2≤((a.alloc (.cells row 21)).alloc (.cells #[.slice (some ⟨a.heap.size,0,none⟩) rs.length cap,.int .i64 0] 168)).drew.heap.size:=(by simp[World.drew]);clear o E;go_wp2_with fail;clear D;generalize ((a.alloc (.cells row 21)).alloc (.cells #[.slice (some ⟨a.heap.size,0,none⟩) rs.length cap,.int .i64 0] 168)).drew=W0 at*;refine(zn7 (a.heap.size+1) a.heap.size cap 0 rs _ C).mono ?_;rintro e O ⟨rfl,V,F,_,R,J⟩;have M:Below w.heap.size w O:=B.trans (J.below (by omega) (by simp;omega));have z2:=J.size;have l:Hid (rs.drop V=zek rs):=(by rw[F];simp[Hid]);clear F J C B;have S:Errs O:=W.below (M.mono X);go_wp2_with fail;refine(zRN (a.heap.size+1) a.heap.size cap V rs _ R S (by omega)).mono ?_;rintro e Z ⟨L,m,K,⟨n,v,p,ad,k,rfl⟩|⟨p,rfl⟩⟩
   all_goals
    have q:Below w.heap.size w Z:=M.trans (K.below (by omega) (by simp;omega));have z3:=K.size;clear K R M S
   ·have y:Hid (zIo s=if zek (rs.drop L)=[]then some n else none):=by
     rw[HL.out,←l.out,p];exact rfl
    clear p HL l;go_wp2_with fail;refine(zn7 (a.heap.size+1) a.heap.size cap L rs _ m).mono ?_;rintro e I ⟨rfl,z,b,H,x,d⟩;have A:Below w.heap.size w I:=q.trans (d.below (by omega) (by simp;omega));have N:=zzF k d (by simp;omega);have c0:=x.c0;have c1:=x.c1;have G:=x.le;by_cases hend:z<rs.length
    ·have j:Hid (zIo s=none):=by
      rw[y.out,if_neg (by rw[←b,znz G];omega)];exact rfl
     have U:(z:Int)<(rs.length:Int):=(by omega);clear y b d q m k N;go_wp2;go_ret2;exact⟨A,Or.inr ⟨j.out,rfl⟩⟩
    ·have j:Hid (zIo s=some n):=by
      rw[y.out,if_pos (by rw[←b,znz G];omega)];exact rfl
     have U:¬(z:Int)<(rs.length:Int):=(by omega);clear y b d q m k;go_wp2;go_ret2;refine⟨A,Or.inl ⟨n,v,j.out,by omega,⟨N.1,?_⟩,rfl⟩⟩;rcases N.2 with hn|⟨g,cap',cur,hv,hbg,hg,rest⟩
     ·exact .inl hn
     ·exact .inr ⟨g,cap',cur,hv,by omega,hg,rest⟩
   ·have j:Hid (zIo s=none):=(by rw[HL.out,←l.out,p];exact rfl);clear p HL l;go_wp2_with fail;refine(zn7 (a.heap.size+1) a.heap.size cap L rs _ m).mono ?_;rintro e I ⟨rfl,z,b,H,x,d⟩;have A:Below w.heap.size w I:=q.trans (d.below (by omega) (by simp;omega));clear b d q m;go_wp2;go_ret2;exact⟨A,Or.inr ⟨j.out,rfl⟩⟩
open Go.RowKit Go.Maps
def zXz (v:Value):Option (DataW Value×List MemPlace):=some (.held v,[])
def MapFn (w:World)(k:TypeId)(b n sz:Nat)(f:Lit→Option Value):Prop:=
 ∃D:DataW Value,w.ownsMap prog k zXz b n D∧Maps.size D=sz∧Tidy D∧∀kl,Maps.has D kl=(f kl).isSome∧∀v,f kl=some v→∀z,D.atKey kl z=.held v
theorem MapFn.made (w:World)(k:TypeId):MapFn (w.alloc (.map #[] 0)) k w.heap.size 0 0 (fun _=>none):=
 ⟨.map [],World.ownsMap_made w _ k zXz,rfl,tidy_empty,fun kl=>⟨rfl,fun v h=>by cases h⟩⟩
theorem MapFn.kept {w w':World}{k:TypeId}{b n sz:Nat}{f:Lit→Option Value}{S:List Nat}(h:MapFn w k b n sz f)(g:Kept S w w')(e:b∉S):MapFn w' k b n sz f:=by
 obtain⟨D,⟨j,a,d,i⟩,r⟩:=h;exact⟨D,⟨j,a,(g.block b (zBq d) e).trans d,i⟩,r⟩
theorem MapFn.lt {w:World}{k:TypeId}{b n sz:Nat}{f:Lit→Option Value}(h:MapFn w k b n sz f):b<w.heap.size:=by
 obtain⟨D,a,_⟩:=h;exact a.lt
theorem MapFn.below {w w':World}{k:TypeId}{b n sz:Nat}{f:Lit→Option Value}(h:MapFn w k b n sz f)(a:Below w.heap.size w w'):MapFn w' k b n sz f:=h.kept (S:=[]) (Kept.of_below a) (by simp)
theorem MapFn.alloc {w:World}{k:TypeId}{b n sz:Nat}{f:Lit→Option Value}(h:MapFn w k b n sz f)(o:Obj):MapFn (w.alloc o) k b n sz f:=h.kept (S:=[]) ((Kept.refl _ _).alloc o) (by simp)
theorem MapFn.congr {w:World}{k:TypeId}{b n sz:Nat}{f g:Lit→Option Value}(h:MapFn w k b n sz f)(e:∀x,f x=g x):MapFn w k b n sz g:=by rw[←funext e];exact h
theorem zzY {D:DataW Value}{f:Lit→Option Value}(h:∀a,Maps.has D a=(f a).isSome∧∀v,f a=some v→∀z,D.atKey a z=.held v)(a:Lit)(z:Value):D.atKey a (.held z)=.held ((f a).getD z):=by
 cases hf:f a with
 |none=>rw[Maps.atKey_of_not_has (by rw[(h a).1,hf];rfl)];rfl
 |some v=>rw[(h a).2 v hf];rfl
section
variable {w:World} {ops:Array Oper} {rest:List Oper} {o:Oper} {a:Act} {Q:Exit→Act→World→Prop}
end
theorem MapFn.runOk {w:World} {k e t:TypeId} {b n sz:Nat} {f:Lit→Option Value} (h:MapFn w k b n sz f) (K:Keyed prog k) (m:prog.underlying t=some (.map k e)) {z:Value} (o:(zeroValue e).run prog w=.ok z w)
 {key:Value} {a:Lit} (g:keyOf prog k key=some a):(Instr.lookup t (.map (some b)) key true).run prog w=.ok (.tuple #[(f a).getD z,.bool (f a).isSome]) w:=by
 obtain⟨D,l,p,q,j⟩:=h;obtain⟨v,ps,i,d⟩:=l.look_ok K m o (R:=zXz) (zd:=.held z) (zp:=[]) rfl g;rw[zzY j]at d;simp only [zXz,Option.some.injEq,Prod.mk.injEq,DataW.held.injEq]at d;rw[i,d.1,(j a).1]
theorem MapFn.run1 {w:World} {k e t:TypeId} {b n sz:Nat} {f:Lit→Option Value} (h:MapFn w k b n sz f) (K:Keyed prog k) (m:prog.underlying t=some (.map k e)) {z:Value} (o:(zeroValue e).run prog w=.ok z w)
 {key:Value} {i:Lit} (d:keyOf prog k key=some i):(Instr.lookup t (.map (some b)) key false).run prog w=.ok ((f i).getD z) w:=by
 obtain⟨D,l,p,q,j⟩:=h;obtain⟨v,ps,g,a⟩:=l.lookup K m o (R:=zXz) (zd:=.held z) (zp:=[]) rfl d;rw[zzY j]at a;simp only [zXz,Option.some.injEq,Prod.mk.injEq,DataW.held.injEq]at a;rw[g,a.1]
theorem MapFn.runLen {w:World}{k e t:TypeId}{b n sz:Nat}{f:Lit→Option Value}(h:MapFn w k b n sz f)(i:prog.underlying t=some (.map k e))(a:TypeId):(Builtin.len_ #[t] a #[.map (some b)]).run prog w=.ok (.int .i64 sz) w:=by
 obtain⟨D,d,g,j,l⟩:=h;rw[d.len i a,g]
theorem MapFn.runPut {w:World} {k e t:TypeId} {b n sz:Nat} {f:Lit→Option Value} (h:MapFn w k b n sz f) (K:Keyed prog k) (C:prog.underlying t=some (.map k e)) (p:n<maxLen)
 {key:Value} (val:Value) {a:Lit} (q:keyOf prog k key=some a) (l:WideAt.IsKeyLit a) (g:Lit→Option Value) (s:g a=some val) (u:∀x,x≠a→g x=f x):
 ∃w',(Instr.mapUpdate t (.map (some b)) key val).run prog w=.ok () w'∧MapFn w' k b (n+1) (if(f a).isSome then sz else sz+1) g∧Kept [b] w w':=by
 obtain⟨D,B,A,m,o⟩:=h;obtain⟨w',r,y,j⟩:=B.update K C p q (R:=zXz) (d:=.held val) (ps:=[]) (val:=val) rfl;refine⟨w',r,⟨_,y,?_,m.put l _,fun kl'=>?_⟩,⟨j.os,j.tape,j.output,j.size,fun i hi p=>j.block i hi (fun e=>p (by simpa using e))⟩⟩
 ·rw[size_put m,(o a).1,A]
 ·by_cases e:kl'=a
  ·subst e;rw[s];exact⟨has_put_same m.isMap l _,fun v hv z=>by cases hv;exact atKey_put_same m.isMap l _ _⟩
  ·rw[u _ e];exact⟨(has_put_other e _).trans (o kl').1,fun v hv z=>(atKey_put_other e _ _).trans ((o kl').2 v hv z)⟩
theorem lawS:Keyed prog 9:=string_keyed underlying9
theorem lawI:Keyed prog 2:=int_keyed underlying2
theorem z7H (w:World):(zeroValue 171).run prog w=.ok (.agg #[.int .i64 0,.int .i64 0,.string ⟨#[]⟩]) w:=by kernel_rfl
theorem zG7 (w:World):(zeroValue 3).run prog w=.ok (.int .i64 0) w:=by kernel_rfl
def zhZ (N:Nat)(m:Mem):Prop:=m.1.length≤4*N∧ -9223372036854775808≤m.2.2.1∧m.2.2.1≤9223372036854775807
theorem zsf (f:Nat):∀(a:List UInt8) (l:List Nat) (v:List UInt8) (r:List Nat),z9u f a l=some (v,r)→v.length≤a.length+4*l.length:=by
 induction f with
 |zero=>intro a l v r h;cases l<;>simp[z9u]at h
 |succ f ih=>
   intro a l v r h;cases l with
   |nil=>simp[z9u]at h
   |cons c t=>
     have b:∀x:Int,(Lib.encodeRune x).length≤4:=fun x=>by
      have:=Lib.runeCells_le x;rw[Lib.runeCells_length]at this;omega
     unfold z9u at h;split at h
     ·simp at h;rw[←h.1];omega
     ·split at h
      ·cases h
      ·split at h
       ·split at h
        ·cases h
        ·rename_i v' n' _;have:=ih _ _ _ _ h;have d:=b v';simp at this⊢;omega
       ·have:=ih _ _ _ _ h;have d:=b c;simp at this⊢;omega
theorem zer {l:List Nat}{v:List UInt8}{r:List Nat}(h:zhn l=some (v,r)):v.length≤4*l.length:=by
 cases l with
 |nil=>cases h
 |cons c t=>
   by_cases hc:((c:Int)==34)=true
   ·rw[zhn,if_pos hc]at h;have:=zsf _ _ _ _ _ h;simp at this⊢;omega
   ·rw[zhn,if_neg hc]at h;cases h
theorem zcm {l:List Nat}{v:Int×Int×List UInt8}{r:List Nat}(h:zFD l=some (v,r)): -9223372036854775808≤v.2.1∧v.2.1≤9223372036854775807:=by
 unfold zFD at h;split at h
 ·split at h
  ·simp at h;rw[←h.1];exact⟨by show(-9223372036854775808:Int)≤0;decide,by show(0:Int)≤9223372036854775807;decide⟩
  ·cases h
 ·split at h
  ·split at h
   ·simp at h;rw[←h.1];exact⟨by decide,by decide⟩
   ·cases h
  ·split at h
   ·split at h
    ·simp at h;rw[←h.1];exact⟨by decide,by decide⟩
    ·cases h
   ·split at h
    ·split at h
     ·simp at h;rw[←h.1];exact⟨by decide,by decide⟩
     ·cases h
    ·split at h
     ·rename_i n r' hi;simp at h;unfold intP at hi;split at hi
      ·rename_i v' hp;simp at hi;have a:=Lib.parseIntB_bounds hp;rw[←h.1];show -9223372036854775808≤n∧n≤9223372036854775807;rw[←hi.1];have e:((2 ^ (64-1):Nat):Int)=9223372036854775808:=(by decide);rw[e]at a;omega
      ·cases hi
     ·cases h
theorem z2C {l:List Nat}{m:Mem}{r:List Nat}{N:Nat}(d:l.length≤N)(h:zcL l=some (m,r)):zhZ N m:=by
 unfold zcL at h;split at h
 ·cases h
 ·rename_i nm r1 ht;split at h
  ·split at h
   ·cases h
   ·rename_i v r4 hv;simp at h;have b:=zer ht;have a:=zcm hv;rw[←h.1];exact⟨by show nm.length≤4*N;omega,a.1,a.2⟩
  ·cases h
theorem zD8 (N f:Nat):∀(a:List Mem) (l:List Nat) (b:List Mem) (r:List Nat),l.length≤N→(∀m∈a,zhZ N m)→zRf f a l=some (b,r)→∀m∈b,zhZ N m:=by
 induction f with
 |zero=>intro a l b r _ _ h;simp[zRf]at h
 |succ f ih=>
   intro a l b r g i h;rw[zRf]at h;split at h
   ·cases h
   ·rename_i m r1 hm;have e:=z2C g hm;have k:=zVf hm;have d:∀x∈a++[m],zhZ N x:=by
     intro x j;rcases List.mem_append.1 j with h'|h'
     ·exact i x h'
     ·simp at h';rw[h'];exact e
    split at h
    ·simp at h;rw[←h.1];exact d
    ·split at h
     ·refine ih _ _ _ _ ?_ d h;have:=zH7 r1.tail;simp at this;omega
     ·cases h
theorem zau {s:ByteArray}{a:List Mem}(h:zIo s=some a):∀m∈a,zhZ s.size m:=by
 unfold zIo at h;split at h
 ·split at h
  ·cases h
  ·rename_i ms' r ho;split at h
   ·simp at h;subst h;unfold zfb at ho;have e:=z75 s;have d:=zH7 (runesOf s);split at ho
    ·split at ho
     ·simp at ho;rw[ho.1];intro m b;cases b
     ·refine zD8 s.size _ [] _ _ _ ?_ (by simp) ho;have:=zH7 (zek (runesOf s)).tail;simp at this;omega
    ·cases ho
   ·cases h
 ·cases h
end Go.Proofs.YtoeoinpaidhmcaaGreatDoor
