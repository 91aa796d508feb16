/- Several texts in one. -/
import Derived.Test.YtbbkihekjdffpaaGreatDoorRefG
import Derived.Test.YtbbkihekjdffpaaGreatDoorScanY
import Derived.Laws.IdiomStrings
import Derived.Lib.ParseIntBTie
import Derived.Maps.OwnOps
import Derived.Maps.OwnSet
set_option maxHeartbeats 4000000
set_option maxRecDepth 100000
namespace Go.Proofs.YtbbkihekjdffpaaGreatDoor
open Go.RowKit
def zRf:Nat→List Mem→List Nat→Option (List Mem×List Nat)
 |0,_,_=>none
 |f+1,acc,l=>match zcL l with
   |none=>none
   |some (m,r)=>if(zEH r==125)then some (acc++[m],r.tail)else if(zEH r==44)then zRf f (acc++[m]) (zek r.tail)else none
def zfb (l:List Nat):Option (List Mem×List Nat):=
 if(zEH l==123)then(if(zEH (zek l.tail)==125)then some ([],(zek l.tail).tail)else zRf (l.length+1) [] (zek l.tail))else none
theorem zH7 (l:List Nat):(zek l).length≤l.length:=by
 induction l with
 |nil=>simp[zek]
 |cons c t ih=>unfold zek;split<;>simp;omega
theorem z6c (l:List Nat):(zva l).length≤l.length:=by
 induction l with
 |nil=>simp[zva]
 |cons c t ih=>unfold zva;split<;>simp;omega
theorem zAt (f:Nat):∀(acc:List UInt8) (l:List Nat) (v:List UInt8) (r:List Nat),z9u f acc l=some (v,r)→r.length<l.length:=by
 induction f with
 |zero=>intro acc l v r h;cases l<;>simp[z9u]at h
 |succ f ih=>
   intro acc l v r h;cases l with
   |nil=>simp[z9u]at h
   |cons c t=>
     unfold z9u at h;split at h
     ·simp at h;rw[←h.2];simp
     ·split at h
      ·cases h
      ·split at h
       ·split at h
        ·cases h
        ·have:=ih _ _ _ _ h;simp at this⊢;omega
       ·have:=ih _ _ _ _ h;simp at this⊢;omega
theorem zf7 {l:List Nat}{v:List UInt8}{r:List Nat}(h:zgn l=some (v,r)):r.length<l.length:=by
 cases l with
 |nil=>cases h
 |cons c t=>
   by_cases hc:((c:Int)==34)=true
   ·rw[zgn,if_pos hc]at h;have:=zAt _ _ _ _ _ h;simp;omega
   ·rw[zgn,if_neg hc]at h;cases h
theorem zg0 (l:List Nat):(zDE l).length≤l.length:=by
 unfold zDE;have h1:∀m:List Nat,m.length≤l.length→(if zEH m=48 then m.tail else zva m).length≤l.length:=by
  intro m hm;split
  ·simp;omega
  ·exact Nat.le_trans (z6c m) hm
 split
 ·exact h1 _ (by simp)
 ·exact h1 _ zG
theorem zHG {l:List Nat}{v:Int×Int×List UInt8}{r:List Nat}(h:zFD l=some (v,r)):r.length≤l.length:=by
 unfold zFD at h;split at h
 ·split at h
  ·rename_i t r' ht;simp at h;have:=zf7 ht;rw[←h.2];omega
  ·cases h
 ·split at h
  ·split at h
   ·simp at h;rw[←h.2];simp
   ·cases h
  ·split at h
   ·split at h
    ·simp at h;rw[←h.2];simp
    ·cases h
   ·split at h
    ·split at h
     ·simp at h;rw[←h.2];simp
     ·cases h
    ·split at h
     ·rename_i n r' hi;simp at h;unfold intP at hi;split at hi
      ·simp at hi;rw[←h.2,←hi.2];exact zg0 l
      ·cases hi
     ·cases h
theorem zVf {l:List Nat}{m:Mem}{r:List Nat}(h:zcL l=some (m,r)):r.length<l.length:=by
 unfold zcL at h;split at h
 ·cases h
 ·rename_i nm r1 ht;split at h
  ·split at h
   ·cases h
   ·rename_i v r4 hv;simp at h;have h1:=zf7 ht;have h2:=zHG hv;have h3:=zH7 r4;have h4:=zH7 (zek r1).tail;have h5:=zH7 r1;simp at h4;rw[←h.2];omega
  ·cases h
def zIS (m:Mem):List Value:=[.string ⟨m.1.toArray⟩,.int .i64 m.2.1,.int .i64 m.2.2.1,.string ⟨m.2.2.2.toArray⟩]
def zLk (l:List Mem):List Value:=l.flatMap zIS
theorem zri (w:World)(a b c d:Value)(t:TypeId):∀j u,[a,b,c,d][j]?=some u→(w.alloc (.cells #[a,b,c,d] t)).cell? ((⟨w.heap.size,0,none⟩:Addr).add j)=some u:=by
 intro j u hj
 match j,hj with
 |0,hj=>simp at hj;subst hj;simp[Addr.add]
 |1,hj=>simp at hj;subst hj;simp[Addr.add]
 |2,hj=>simp at hj;subst hj;simp[Addr.add]
 |3,hj=>simp at hj;subst hj;simp[Addr.add]
theorem zzF {S:List Nat}{w w':World}{base:Nat}{e:TypeId}{size:Nat}{v:Value}{n:Nat}{xs:List Value}(h:w.ownsRow base e size v n xs)(k:Kept S w w')(hS:∀x∈S,x<base):w'.ownsRow base e size v n xs:=by
 refine⟨h.1,?_⟩;rcases h.2 with hn|⟨g,cap,cur,hv,hbg,hg,rest⟩
 ·exact .inl hn
 ·have ng:g∉S:=fun hm=>by have:=hS g hm;omega
  exact .inr ⟨g,cap,cur,hv,hbg,(k.block g (zBq hg) ng).trans hg,rest⟩
theorem zNV:(Tryz.prog.info? 246).map (fun i=>(i.zero,i.size,i.bytes))=some (some (.agg #[.string ⟨#[]⟩,.int .i64 0,.int .i64 0,.string ⟨#[]⟩]),4,48):=by kernel_rfl
open Tryz
def zY3 (b rb cap k:Nat)(rs:List Nat)(w:World)(e:Ending)(w':World):Prop:=
 ∃k',Scan w' b rb cap rs k'∧Kept [b] w w'∧((∃ms v,zfb (rs.drop k)=some (ms,rs.drop k')∧ms.length≤k'∧w'.ownsRow w.heap.size 246 4 v ms.length (zLk ms)∧e=.returned (.tuple #[v,.bool true]))∨
  (zfb (rs.drop k)=none∧e=.returned (.tuple #[.slice none 0 0,.bool false])))
theorem z7d (l:List Mem)(m:Mem):zLk (l++[m])=zLk l++zIS m:=by simp[zLk]
theorem Scan.grown {w w':World}{b rb cap k B:Nat}{rs:List Nat}{row:Option Nat}(h:Scan w b rb cap rs k)(hg:w.grownBy w' row)(hr:∀g,row=some g→B≤g)(h1:b<B)(h2:rb<B):Scan w' b rb cap rs k:=by
 obtain⟨c,t,f,hrow,hc⟩:=h.row;exact⟨by rw[hg.block b (zBq h.blk) (fun e=>by have:=hr b e.symm;omega)];exact h.blk,
  ⟨c,t,f,by rw[hg.block rb (zBq hrow) (fun e=>by have:=hr rb e.symm;omega)];exact hrow,hc⟩,h.ne,h.le,h.small,h.bd,h.room⟩
theorem Kept.grown {S:List Nat}{a w w':World}{row:Option Nat}(h:Kept S a w)(hg:w.grownBy w' row)(hr:∀g,row=some g→a.heap.size≤g):Kept S a w':=
 ⟨hg.os.trans h.os,hg.tape.trans h.tape,hg.output.trans h.output,Nat.le_trans h.size hg.size,fun i hi hn=>
  (hg.block i (zH hi h.size) (fun e=>by have:=hr i e.symm;omega)).trans (h.block i hi hn)⟩
theorem zYv {w:World}{base:Nat}{e:TypeId}{size:Nat}{v:Value}{n:Nat}{xs:List Value}(h:w.ownsRow base e size v n xs):∀g,v.ownBlock=some g→base≤g:=fun g hg=>(h.lt g hg).1
theorem zph (b rb cap k:Nat)(rs:List Nat)(w:World)(hs:Scan w b rb cap rs k)(he:Errs w)(hb:10≤b)(hp:zEH (rs.drop k)=123):
 Calls prog 112 #[.pointer (some ⟨b,0,none⟩)] w fun e w'=>zY3 b rb cap k rs w e w':=by
 have hbw:=hs.bLt;have hrw:=hs.rbLt;have heW:=he.lt;have hlt:=znY hp (by omega);have HO:Hid (zfb (rs.drop k)=if(zEH (zek (rs.drop (k+1)))==125)then some ([],(zek (rs.drop (k+1))).tail)else zRf (rs.length-k+1) [] (zek (rs.drop (k+1)))):=by
  unfold zfb;rw[hp,tail_drop,List.length_drop];exact rfl
 go_enter func112,ntmps112;go_wp2_with fail;refine(z8M b rb cap k rs 123 _ hs hp (by omega)).mono ?_;rintro e w1 ⟨rfl,g1,q1⟩;clear hp;go_wp2_with fail;refine(zn7 b rb cap (k+1) rs _ g1).mono ?_;rintro e w2 ⟨rfl,k2,hk2,hk12,g3,g4⟩;have q2:=q1.trans g4;clear g4 g1 q1;by_cases hc:zEH (rs.drop k2)=125
 ·have HX:Hid (zfb (rs.drop k)=some ([],rs.drop (k2+1))):=by
   rw[HO.out,←hk2,hc,tail_drop];exact rfl
  go_wp2_with fail;refine(z8M b rb cap k2 rs 125 _ g3 hc (by omega)).mono ?_;rintro e w3 ⟨rfl,g5,g6⟩;clear hc hk2 HO;go_wp2;go_ret2;exact⟨k2+1,g5,q2.trans g6,Or.inl ⟨[],.slice none 0 0,HX.out,by simp,World.ownsRow_nil _ _ _ _,rfl⟩⟩
 ·have HR:Hid (zfb (rs.drop k)=zRf (rs.length-k+1) [] (rs.drop k2)):=by
   rw[HO.out,←hk2,if_neg (by simp[hc])];exact rfl
  go_wp2_with fail;refine(zZ5 b rb cap k2 rs 125 _ g3 hc).mono ?_;rintro e w3 ⟨rfl,n3,rfl⟩;have g5:=g3.drewN n3;have q3:=q2.drewN n3;clear hc hk2 HO g3 q2;go_wp2;go_loopw [4] (fun v wr=>∃(j f:Nat) (acc:List Mem),zRf f acc (rs.drop j)=zfb (rs.drop k)∧rs.length+1≤j+f∧acc.length≤j∧wr.ownsRow w.heap.size 246 4 v acc.length (zLk acc)∧Scan wr b rb cap rs j∧Kept [b] w wr) (fun _ wr=>rs.length-z3F wr b)
  case atStart=>
   exact⟨k2,rs.length-k+1,[],HR.out.symm,by omega,by simp,World.ownsRow_nil _ _ _ _,g5,q3⟩
  case round=>
   obtain⟨i0,hi,hz0,hz1,hz2⟩:=info_parts zNV;obtain⟨j,f,acc,HJ,hf,hal,hown,hsj,hkp⟩:=hrel;have hJ:Hid (zRf f acc (rs.drop j)=zfb (rs.drop k)):=HJ;clear HJ HR g5 q3;have hsm:=hsj.small;have hlej:=hsj.le;obtain⟨f,rfl⟩:∃f',f=f'+1:=⟨f-1,by omega⟩;have eJ:Errs wr:=he.kept hkp (by simpa using hb);go_wp2_with fail;refine(zam b rb cap j rs _ hsj eJ hb).mono ?_;rintro e w4 ⟨k4,g6,g7,⟨m,hm,rfl⟩|⟨hm,m,rfl⟩⟩
   all_goals
    have q4:=hkp.trans g7;have o4:=zzF hown g7 (by simp;omega);clear hkp g7 hown eJ;obtain⟨ma,mb,mc,md⟩:=m;unfold aggM
   ·have hlen:=zVf hm;simp at hlen;have HS:Hid (zfb (rs.drop k)=if(zEH (rs.drop k4)==125)then some (acc++[(ma,mb,mc,md)],(rs.drop k4).tail)else if(zEH (rs.drop k4)==44)then zRf f (acc++[(ma,mb,mc,md)]) (zek (rs.drop k4).tail)else none):=by
     rw[←hJ.out,zRf,hm];exact rfl
    clear hm hJ;have hzz:=q4.size;go_wp2_with (at_builtin;refine wpList_append_own _ rfl _ _ 141 rfl w.heap.size 246 i0 (.agg #[.string ⟨#[]⟩,.int .i64 0,.int .i64 0,.string ⟨#[]⟩]) 4 48 underlying141 hi hz0 hz1 hz2 rfl (by decide) _ _ _ rfl ((o4.alloc _).alloc _) ⟨w4.heap.size+1,0,none⟩ 1 1 (zIS (ma,mb,mc,md)) rfl rfl ?c1 ?c2 ?c3 ?c4 ?c5 ?_)
    case c1=>
     have:=zri (w4.alloc (.cells #[.string ⟨ma.toArray⟩,.int .i64 mb,.int .i64 mc,.string ⟨md.toArray⟩] 246)) (.string ⟨ma.toArray⟩) (.int .i64 mb) (.int .i64 mc) (.string ⟨md.toArray⟩) 246;simpa [zIS]using this
    case c2=>
     intro u hu;simp[zIS]at hu;rcases hu with rfl|rfl|rfl|rfl<;>rfl
    case c3=>unfold maxLen;omega
    case c4=>omega
    case c5=>simp;omega
    intro v5 w5 own5 grow5 _;have hrow:=zYv o4;have g8:Scan w5 b rb cap rs k4:=((g6.alloc _).alloc _).grown grow5 hrow hbw hrw;have q5:Kept [b] w w5:=((q4.alloc _).alloc _).grown grow5 hrow;rw[←z7d]at own5;have own6:w5.ownsRow w.heap.size 246 4 v5 (acc++[(ma,mb,mc,md)]).length (zLk (acc++[(ma,mb,mc,md)])):=(by simpa using own5);have hnl:(acc++[(ma,mb,mc,md)]).length≤k4:=(by simp;omega);clear own5 grow5 hrow q4 o4 g6;generalize acc++[(ma,mb,mc,md)]=acc' at*;by_cases h1:zEH (rs.drop k4)=125
    ·have HX:Hid (zfb (rs.drop k)=some (acc',rs.drop (k4+1))):=(by rw[HS.out,h1,tail_drop];exact rfl);go_wp2_with fail;refine(z8M b rb cap k4 rs 125 _ g8 h1 (by omega)).mono ?_;rintro e w6 ⟨rfl,g9,g10⟩;have o7:=zzF own6 g10 (by simp;omega);clear h1 HS;go_wp2;go_ret2;exact⟨k4+1,g9,q5.trans g10,Or.inl ⟨acc',v5,HX.out,by omega,o7,rfl⟩⟩
    ·by_cases h2:zEH (rs.drop k4)=44
     ·have HX:Hid (zfb (rs.drop k)=zRf f acc' (zek (rs.drop (k4+1)))):=(by rw[HS.out,if_neg (by simp[h1]),h2,tail_drop];exact rfl);have hl4:=znY h2 (by omega);go_wp2_with fail;refine(zZ5 b rb cap k4 rs 125 _ g8 h1).mono ?_;rintro e w6 ⟨rfl,n6,rfl⟩;go_wp2_with fail;refine(z8M b rb cap k4 rs 44 _ (g8.drewN n6) h2 (by omega)).mono ?_;rintro e w7 ⟨rfl,g9,g10⟩;clear h1 h2 HS;go_wp2_with fail;refine(zn7 b rb cap (k4+1) rs _ g9).mono ?_;rintro e w8 ⟨rfl,k8,hk8,hk8',g11,g12⟩;have o8:=zzF (zzF (zzF own6 ((Kept.refl [b] _).drewN n6) (by simp;omega)) g10 (by simp;omega)) g12 (by simp;omega);have q8:=((q5.drewN n6).trans g10).trans g12;have HX':Hid (zRf f acc' (rs.drop k8)=zfb (rs.drop k)):=(by rw[HX.out,hk8];exact rfl);clear HX hk8 g9 g10 g12 own6 q5 g8;go_wp2;go_roundw
      case rel=>exact⟨k8,f,acc',HX'.out,by omega,by omega,o8,g11,q8⟩
      case measure=>rw[g11.place,hsj.place];omega
     ·have HX:Hid (zfb (rs.drop k)=none):=(by rw[HS.out,if_neg (by simp[h1]),if_neg (by simp[h2])];exact rfl);go_wp2_with fail;refine(zZ5 b rb cap k4 rs 125 _ g8 h1).mono ?_;rintro e w6 ⟨rfl,n6,rfl⟩;go_wp2_with fail;refine(zZ5 b rb cap k4 rs 44 _ (g8.drewN n6) h2).mono ?_;rintro e w7 ⟨rfl,n7,rfl⟩;clear h1 h2 HS;go_wp2;go_ret2;exact⟨k4,g8.drewN _,q5.drewN _,Or.inr ⟨HX.out,rfl⟩⟩
   ·have HX:Hid (zfb (rs.drop k)=none):=(by rw[←hJ.out,zRf,hm];exact rfl);clear hm hJ;go_wp2;go_ret2;exact⟨k4,g6.alloc _,q4.alloc _,Or.inr ⟨HX.out,rfl⟩⟩
theorem zRN (b rb cap k:Nat)(rs:List Nat)(w:World)(hs:Scan w b rb cap rs k)(he:Errs w)(hb:10≤b):
 Calls prog 112 #[.pointer (some ⟨b,0,none⟩)] w fun e w'=>zY3 b rb cap k rs w e w':=by
 by_cases hp:zEH (rs.drop k)=123
 ·exact zph b rb cap k rs w hs he hb hp
 ·have HX:Hid (zfb (rs.drop k)=none):=by unfold zfb;rw[if_neg (by simp[hp])];exact rfl
  go_enter func112,ntmps112;go_wp2_with fail;refine(zZ5 b rb cap k rs 123 _ hs hp).mono ?_;rintro e w1 ⟨rfl,n,rfl⟩;clear hp;go_wp2;go_ret2;exact⟨k,hs.drewN _,(Kept.refl _ _).drewN _,Or.inr ⟨HX.out,rfl⟩⟩
open Go.RowKit Go.Maps
def zXz (v:Value):Option (DataW Value×List MemPlace):=some (.held v,[])
def MapFn (w:World)(k:TypeId)(b n sz:Nat)(f:Lit→Option Value):Prop:=
 ∃D:DataW Value,w.ownsMap prog k zXz b n D∧Maps.size D=sz∧Tidy D∧∀kl,Maps.has D kl=(f kl).isSome∧∀v,f kl=some v→∀z,D.atKey kl z=.held v
theorem MapFn.made (w:World)(k:TypeId):MapFn (w.alloc (.map #[] 0)) k w.heap.size 0 0 (fun _=>none):=
 ⟨.map [],World.ownsMap_made w _ k zXz,rfl,tidy_empty,fun kl=>⟨rfl,fun v h=>by cases h⟩⟩
theorem MapFn.kept {w w':World}{k:TypeId}{b n sz:Nat}{f:Lit→Option Value}{S:List Nat}(h:MapFn w k b n sz f)(hk:Kept S w w')(hb:b∉S):MapFn w' k b n sz f:=by
 obtain⟨D,⟨es,clock,h1,h2⟩,r⟩:=h;exact⟨D,⟨es,clock,(hk.block b (zBq h1) hb).trans h1,h2⟩,r⟩
theorem MapFn.lt {w:World}{k:TypeId}{b n sz:Nat}{f:Lit→Option Value}(h:MapFn w k b n sz f):b<w.heap.size:=by
 obtain⟨D,h1,_⟩:=h;exact h1.lt
theorem MapFn.below {w w':World}{k:TypeId}{b n sz:Nat}{f:Lit→Option Value}(h:MapFn w k b n sz f)(hk:Below w.heap.size w w'):MapFn w' k b n sz f:=h.kept (S:=[]) (Kept.of_below hk) (by simp)
theorem MapFn.alloc {w:World}{k:TypeId}{b n sz:Nat}{f:Lit→Option Value}(h:MapFn w k b n sz f)(o:Obj):MapFn (w.alloc o) k b n sz f:=h.kept (S:=[]) ((Kept.refl _ _).alloc o) (by simp)
theorem MapFn.congr {w:World}{k:TypeId}{b n sz:Nat}{f g:Lit→Option Value}(h:MapFn w k b n sz f)(e:∀x,f x=g x):MapFn w k b n sz g:=by rw[←funext e];exact h
theorem zzY {D:DataW Value}{f:Lit→Option Value}(h:∀kl,Maps.has D kl=(f kl).isSome∧∀v,f kl=some v→∀z,D.atKey kl z=.held v)(kl:Lit)(z:Value):D.atKey kl (.held z)=.held ((f kl).getD z):=by
 cases hf:f kl with
 |none=>rw[Maps.atKey_of_not_has (by rw[(h kl).1,hf];rfl)];rfl
 |some v=>rw[(h kl).2 v hf];rfl
section
variable {w:World} {ops:Array Oper} {rest:List Oper} {o:Oper} {a:Act} {Q:Exit→Act→World→Prop}
end
theorem MapFn.runOk {w:World} {k e t:TypeId} {b n sz:Nat} {f:Lit→Option Value} (h:MapFn w k b n sz f) (K:Keyed prog k) (ht:prog.underlying t=some (.map k e)) {z:Value} (hz:(zeroValue e).run prog w=.ok z w)
 {key:Value} {kl:Lit} (hkey:keyOf prog k key=some kl):(Instr.lookup t (.map (some b)) key true).run prog w=.ok (.tuple #[(f kl).getD z,.bool (f kl).isSome]) w:=by
 obtain⟨D,h1,h2,h3,h4⟩:=h;obtain⟨v,ps,hrun,hv⟩:=h1.look_ok K ht hz (R:=zXz) (zd:=.held z) (zp:=[]) rfl hkey;rw[zzY h4]at hv;simp only [zXz,Option.some.injEq,Prod.mk.injEq,DataW.held.injEq]at hv;rw[hrun,hv.1,(h4 kl).1]
theorem MapFn.run1 {w:World} {k e t:TypeId} {b n sz:Nat} {f:Lit→Option Value} (h:MapFn w k b n sz f) (K:Keyed prog k) (ht:prog.underlying t=some (.map k e)) {z:Value} (hz:(zeroValue e).run prog w=.ok z w)
 {key:Value} {kl:Lit} (hkey:keyOf prog k key=some kl):(Instr.lookup t (.map (some b)) key false).run prog w=.ok ((f kl).getD z) w:=by
 obtain⟨D,h1,h2,h3,h4⟩:=h;obtain⟨v,ps,hrun,hv⟩:=h1.lookup K ht hz (R:=zXz) (zd:=.held z) (zp:=[]) rfl hkey;rw[zzY h4]at hv;simp only [zXz,Option.some.injEq,Prod.mk.injEq,DataW.held.injEq]at hv;rw[hrun,hv.1]
theorem MapFn.runLen {w:World}{k e t:TypeId}{b n sz:Nat}{f:Lit→Option Value}(h:MapFn w k b n sz f)(ht:prog.underlying t=some (.map k e))(ty:TypeId):(Builtin.len_ #[t] ty #[.map (some b)]).run prog w=.ok (.int .i64 sz) w:=by
 obtain⟨D,h1,h2,h3,h4⟩:=h;rw[h1.len ht ty,h2]
theorem MapFn.runPut {w:World} {k e t:TypeId} {b n sz:Nat} {f:Lit→Option Value} (h:MapFn w k b n sz f) (K:Keyed prog k) (ht:prog.underlying t=some (.map k e)) (hn:n<maxLen)
 {key:Value} (val:Value) {kl:Lit} (hkey:keyOf prog k key=some kl) (hkl:WideAt.IsKeyLit kl) (g:Lit→Option Value) (hg1:g kl=some val) (hg2:∀x,x≠kl→g x=f x):
 ∃w',(Instr.mapUpdate t (.map (some b)) key val).run prog w=.ok () w'∧MapFn w' k b (n+1) (if(f kl).isSome then sz else sz+1) g∧Kept [b] w w':=by
 obtain⟨D,h1,h2,h3,h4⟩:=h;obtain⟨w',hrun,h1',hg⟩:=h1.update K ht hn hkey (R:=zXz) (d:=.held val) (ps:=[]) (val:=val) rfl;refine⟨w',hrun,⟨_,h1',?_,h3.put hkl _,fun kl'=>?_⟩,⟨hg.os,hg.tape,hg.output,hg.size,fun i hi hn=>hg.block i hi (fun e=>hn (by simpa using e))⟩⟩
 ·rw[size_put h3,(h4 kl).1,h2]
 ·by_cases e:kl'=kl
  ·subst e;rw[hg1];exact⟨has_put_same h3.isMap hkl _,fun v hv z=>by cases hv;exact atKey_put_same h3.isMap hkl _ _⟩
  ·rw[hg2 _ e];exact⟨(has_put_other e _).trans (h4 kl').1,fun v hv z=>(atKey_put_other e _ _).trans ((h4 kl').2 v hv z)⟩
theorem lawS:Keyed prog 9:=string_keyed underlying9
theorem lawI:Keyed prog 2:=int_keyed underlying2
theorem z7H (w:World):(zeroValue 244).run prog w=.ok (.agg #[.int .i64 0,.int .i64 0,.string ⟨#[]⟩]) w:=by kernel_rfl
theorem zG7 (w:World):(zeroValue 3).run prog w=.ok (.int .i64 0) w:=by kernel_rfl
def runesL (s:ByteArray):Nat→Nat→List Nat
 |0,_=>[]
 |f+1,i=>if i<s.size then(Utf8.decode s i).1::runesL s f (i+(Utf8.decode s i).2)else []
def runesOf (s:ByteArray):List Nat:=runesL s s.size 0
theorem zKc (s:ByteArray):∀(f i:Nat) (acc:Array Value),(Conv.runesFrom s f i acc).toList=acc.toList++(runesL s f i).map (fun r=>Value.int .i32 (Int.ofNat r)):=by
 intro f
 induction f with
 |zero=>intro i acc;simp[Conv.runesFrom,runesL]
 |succ f ih=>
   intro i acc;unfold Conv.runesFrom runesL;by_cases h:i<s.size
   ·rw[if_pos h,if_pos h];simp only [ih];simp
   ·rw[if_neg h,if_neg h];simp
theorem zv1 (s:ByteArray):(Conv.runesFrom s s.size 0 #[]).toList=(runesOf s).map (fun r=>Value.int .i32 (Int.ofNat r)):=by
 rw[zKc];simp[runesOf]
theorem zaO (s:ByteArray):(Conv.runesFrom s s.size 0 #[]).size=(runesOf s).length:=by
 rw[←Array.length_toList,zv1];simp
theorem z6B (s:ByteArray):∀(f i:Nat),(runesL s f i).length≤f:=by
 intro f
 induction f with
 |zero=>intro i;simp[runesL]
 |succ f ih=>intro i;unfold runesL;split;simp;exact ih _;simp
theorem zGY (s:ByteArray):∀(f i:Nat),∀c∈runesL s f i,c≤2147483647:=by
 intro f
 induction f with
 |zero=>intro i c hc;simp[runesL]at hc
 |succ f ih=>
   intro i c hc;unfold runesL at hc;split at hc
   ·simp at hc;rcases hc with rfl|hc
    ·exact decode_le s i
    ·exact ih _ c hc
   ·simp at hc
theorem z75 (s:ByteArray):(runesOf s).length≤s.size:=z6B s s.size 0
theorem zOJ (s:ByteArray):∀c∈runesOf s,c≤2147483647:=zGY s s.size 0
def zIo (s:ByteArray):Option (List Mem):=
 if Lib.validD s.data.toList then(match zfb (zek (runesOf s))with
  |none=>none
  |some (ms,r)=>if zek r=[]then some ms else none)else none
def Utf (w:World):Prop:=Lib.Utf8Tabs 4 5 w
theorem Utf.below {w w':World}(h:Utf w)(k:Below 10 w w'):Utf w':=by
 refine⟨fun c hc=>?_,fun i hi=>⟨?_,?_⟩⟩
 ·rw[k.cell (by show 4<10;omega)];exact h.1 c hc
 ·rw[k.cell (by show 5<10;omega)];exact(h.2 i hi).1
 ·rw[k.cell (by show 5<10;omega)];exact(h.2 i hi).2
theorem zZw (s:ByteArray)(w:World)(hs:s.size≤9223372036854775807)(hT:Utf w):
 Calls prog 110 #[.string s] w fun e w'=>e=.returned (.bool (Lib.validD s.data.toList))∧Below w.heap.size w w':=
 Any.utf8_ValidString Tryz.laysValid s w hs hT
def zSS (s:ByteArray)(w:World)(e:Ending)(w':World):Prop:=
 Below w.heap.size w w'∧((∃ms v,zIo s=some ms∧ms.length≤s.size∧w'.ownsRow w.heap.size 246 4 v ms.length (zLk ms)∧e=.returned (.tuple #[v,.bool true]))∨
  (zIo s=none∧e=.returned (.tuple #[.slice none 0 0,.bool false])))
theorem znz {rs:List Nat}{k:Nat}(h:k≤rs.length):rs.drop k=[]↔k=rs.length:=by
 rw[List.drop_eq_nil_iff];omega
theorem zVM (s:ByteArray)(w:World)(hs:s.size≤2000000)(he:Errs w)(hu:Utf w):
 Calls prog 66 #[.string s] w fun e w'=>zSS s w e w':=by
 go_enter func66,ntmps66;go_wp2_with fail;refine(zZw s _ (by omega) hu).mono ?_;rintro e w1 ⟨rfl,hb1⟩;cases hv:Lib.validD s.data.toList with
 |false=>
   have HX:Hid (zIo s=none):=(by unfold zIo;rw[hv];exact rfl);clear hv;go_wp2;go_ret2;exact⟨hb1,Or.inr ⟨HX.out,rfl⟩⟩
 |true=>
   have HL:Hid (zIo s=(match zfb (zek (runesOf s))with|none=>none|some (ms,r)=>if zek r=[]then some ms else none)):=by
    unfold zIo;rw[hv];exact rfl
   clear hv;have hrl:=z75 s;have hcv:=run_runes_of_string (P:=prog) w1 9 239 21 s underlying9 underlying239 underlying21 (by rw[zaO];omega);have hcap:=grownCap_ge w1 (Conv.runesFrom s s.size 0 #[]).size 0 21;rw[zaO]at hcv hcap;generalize grownCap w1 (runesOf s).length 0 21=cap at*;have hrow:∀i (h:i<(runesOf s).length),(Conv.runesFrom s s.size 0 #[]++Array.replicate (cap-(runesOf s).length) (.int .i32 0))[i]?=some (.int .i32 ((runesOf s)[i]:Int)):=by
    intro i h;rw[Array.getElem?_append_left (by rw[zaO];exact h),←Array.getElem?_toList,zv1];simp[h]
   generalize Conv.runesFrom s s.size 0 #[]++Array.replicate (cap-(runesOf s).length) (.int .i32 0)=row at*;have hbd:=zOJ s;generalize runesOf s=rs at*;have hz1:=hb1.size;have hew:=he.lt;have hS0:Scan ((w1.alloc (.cells row 21)).alloc (.cells #[.slice (some ⟨w1.heap.size,0,none⟩) rs.length cap,.int .i64 0] 241)).drew (w1.heap.size+1) w1.heap.size cap rs 0:=by
    refine⟨?_,⟨row,21,(0,0),?_,hrow⟩,by omega,by omega,by omega,hbd,hcap⟩
    ·show((w1.heap.push _).push _)[w1.heap.size+1]?=_;rw[Array.getElem?_push,if_pos (by simp)];rfl
    ·show((w1.heap.push _).push _)[w1.heap.size]?=_;rw[Array.getElem?_push,if_neg (by simp),Array.getElem?_push,if_pos rfl]
   have hK0:Below w.heap.size w ((w1.alloc (.cells row 21)).alloc (.cells #[.slice (some ⟨w1.heap.size,0,none⟩) rs.length cap,.int .i64 0] 241)).drew:=((hb1.alloc hz1 _).alloc (by simp;omega) _).drew;have hsz0:w1.heap.size+2≤((w1.alloc (.cells row 21)).alloc (.cells #[.slice (some ⟨w1.heap.size,0,none⟩) rs.length cap,.int .i64 0] 241)).drew.heap.size:=(by simp[World.drew]);clear hrow hbd;go_wp2_with fail;clear hcv;generalize ((w1.alloc (.cells row 21)).alloc (.cells #[.slice (some ⟨w1.heap.size,0,none⟩) rs.length cap,.int .i64 0] 241)).drew=W0 at*;refine(zn7 (w1.heap.size+1) w1.heap.size cap 0 rs _ hS0).mono ?_;rintro e w2 ⟨rfl,k2,hk2,_,g1,g2⟩;have b2:Below w.heap.size w w2:=hK0.trans (g2.below (by omega) (by simp;omega));have z2:=g2.size;have HK2:Hid (rs.drop k2=zek rs):=(by rw[hk2];simp[Hid]);clear hk2 g2 hS0 hK0;have e2:Errs w2:=he.below (b2.mono hew);go_wp2_with fail;refine(zRN (w1.heap.size+1) w1.heap.size cap k2 rs _ g1 e2 (by omega)).mono ?_;rintro e w3 ⟨k3,g3,g4,⟨ms,v,hm,hml,hown,rfl⟩|⟨hm,rfl⟩⟩
   all_goals
    have b3:Below w.heap.size w w3:=b2.trans (g4.below (by omega) (by simp;omega));have z3:=g4.size;clear g4 g1 b2 e2
   ·have HM:Hid (zIo s=if zek (rs.drop k3)=[]then some ms else none):=by
     rw[HL.out,←HK2.out,hm];exact rfl
    clear hm HL HK2;go_wp2_with fail;refine(zn7 (w1.heap.size+1) w1.heap.size cap k3 rs _ g3).mono ?_;rintro e w4 ⟨rfl,k4,hk4,hk34,g5,g6⟩;have b4:Below w.heap.size w w4:=b3.trans (g6.below (by omega) (by simp;omega));have o4:=zzF hown g6 (by simp;omega);have c0:=g5.c0;have c1:=g5.c1;have hle:=g5.le;by_cases hend:k4<rs.length
    ·have HX:Hid (zIo s=none):=by
      rw[HM.out,if_neg (by rw[←hk4,znz hle];omega)];exact rfl
     have hlt:(k4:Int)<(rs.length:Int):=(by omega);clear HM hk4 g6 b3 g3 hown o4;go_wp2;go_ret2;exact⟨b4,Or.inr ⟨HX.out,rfl⟩⟩
    ·have HX:Hid (zIo s=some ms):=by
      rw[HM.out,if_pos (by rw[←hk4,znz hle];omega)];exact rfl
     have hlt:¬(k4:Int)<(rs.length:Int):=(by omega);clear HM hk4 g6 b3 g3 hown;go_wp2;go_ret2;refine⟨b4,Or.inl ⟨ms,v,HX.out,by omega,⟨o4.1,?_⟩,rfl⟩⟩;rcases o4.2 with hn|⟨g,cap',cur,hv,hbg,hg,rest⟩
     ·exact .inl hn
     ·exact .inr ⟨g,cap',cur,hv,by omega,hg,rest⟩
   ·have HX:Hid (zIo s=none):=(by rw[HL.out,←HK2.out,hm];exact rfl);clear hm HL HK2;go_wp2_with fail;refine(zn7 (w1.heap.size+1) w1.heap.size cap k3 rs _ g3).mono ?_;rintro e w4 ⟨rfl,k4,hk4,hk34,g5,g6⟩;have b4:Below w.heap.size w w4:=b3.trans (g6.below (by omega) (by simp;omega));clear hk4 g6 b3 g3;go_wp2;go_ret2;exact⟨b4,Or.inr ⟨HX.out,rfl⟩⟩
def zhZ (N:Nat)(m:Mem):Prop:=m.1.length≤4*N∧ -9223372036854775808≤m.2.2.1∧m.2.2.1≤9223372036854775807
theorem zsf (f:Nat):∀(acc:List UInt8) (l:List Nat) (v:List UInt8) (r:List Nat),z9u f acc l=some (v,r)→v.length≤acc.length+4*l.length:=by
 induction f with
 |zero=>intro acc l v r h;cases l<;>simp[z9u]at h
 |succ f ih=>
   intro acc l v r h;cases l with
   |nil=>simp[z9u]at h
   |cons c t=>
     have h4:∀x:Int,(Lib.encodeRune x).length≤4:=fun x=>by
      have:=Lib.runeCells_le x;rw[Lib.runeCells_length]at this;omega
     unfold z9u at h;split at h
     ·simp at h;rw[←h.1];omega
     ·split at h
      ·cases h
      ·split at h
       ·split at h
        ·cases h
        ·rename_i v' n' _;have:=ih _ _ _ _ h;have e1:=h4 v';simp at this⊢;omega
       ·have:=ih _ _ _ _ h;have e1:=h4 c;simp at this⊢;omega
theorem zer {l:List Nat}{v:List UInt8}{r:List Nat}(h:zgn l=some (v,r)):v.length≤4*l.length:=by
 cases l with
 |nil=>cases h
 |cons c t=>
   by_cases hc:((c:Int)==34)=true
   ·rw[zgn,if_pos hc]at h;have:=zsf _ _ _ _ _ h;simp at this⊢;omega
   ·rw[zgn,if_neg hc]at h;cases h
theorem zcm {l:List Nat}{v:Int×Int×List UInt8}{r:List Nat}(h:zFD l=some (v,r)): -9223372036854775808≤v.2.1∧v.2.1≤9223372036854775807:=by
 unfold zFD at h;split at h
 ·split at h
  ·simp at h;rw[←h.1];exact⟨by show(-9223372036854775808:Int)≤0;decide,by show(0:Int)≤9223372036854775807;decide⟩
  ·cases h
 ·split at h
  ·split at h
   ·simp at h;rw[←h.1];exact⟨by decide,by decide⟩
   ·cases h
  ·split at h
   ·split at h
    ·simp at h;rw[←h.1];exact⟨by decide,by decide⟩
    ·cases h
   ·split at h
    ·split at h
     ·simp at h;rw[←h.1];exact⟨by decide,by decide⟩
     ·cases h
    ·split at h
     ·rename_i n r' hi;simp at h;unfold intP at hi;split at hi
      ·rename_i v' hp;simp at hi;have hb:=Lib.parseIntB_bounds hp;rw[←h.1];show -9223372036854775808≤n∧n≤9223372036854775807;rw[←hi.1];have e:((2 ^ (64-1):Nat):Int)=9223372036854775808:=(by decide);rw[e]at hb;omega
      ·cases hi
     ·cases h
theorem z2C {l:List Nat}{m:Mem}{r:List Nat}{N:Nat}(hl:l.length≤N)(h:zcL l=some (m,r)):zhZ N m:=by
 unfold zcL at h;split at h
 ·cases h
 ·rename_i nm r1 ht;split at h
  ·split at h
   ·cases h
   ·rename_i v r4 hv;simp at h;have h1:=zer ht;have h2:=zcm hv;rw[←h.1];exact⟨by show nm.length≤4*N;omega,h2.1,h2.2⟩
  ·cases h
theorem zD8 (N f:Nat):∀(acc:List Mem) (l:List Nat) (ms:List Mem) (r:List Nat),l.length≤N→(∀m∈acc,zhZ N m)→zRf f acc l=some (ms,r)→∀m∈ms,zhZ N m:=by
 induction f with
 |zero=>intro acc l ms r _ _ h;simp[zRf]at h
 |succ f ih=>
   intro acc l ms r hl ha h;rw[zRf]at h;split at h
   ·cases h
   ·rename_i m r1 hm;have hg:=z2C hl hm;have hr1:=zVf hm;have ha':∀x∈acc++[m],zhZ N x:=by
     intro x hx;rcases List.mem_append.1 hx with h'|h'
     ·exact ha x h'
     ·simp at h';rw[h'];exact hg
    split at h
    ·simp at h;rw[←h.1];exact ha'
    ·split at h
     ·refine ih _ _ _ _ ?_ ha' h;have:=zH7 r1.tail;simp at this;omega
     ·cases h
theorem zau {s:ByteArray}{ms:List Mem}(h:zIo s=some ms):∀m∈ms,zhZ s.size m:=by
 unfold zIo at h;split at h
 ·split at h
  ·cases h
  ·rename_i ms' r ho;split at h
   ·simp at h;subst h;unfold zfb at ho;have hr:=z75 s;have h1:=zH7 (runesOf s);split at ho
    ·split at ho
     ·simp at ho;rw[ho.1];intro m hm;cases hm
     ·refine zD8 s.size _ [] _ _ _ ?_ (by simp) ho;have:=zH7 (zek (runesOf s)).tail;simp at this;omega
    ·cases ho
   ·cases h
 ·cases h
theorem zeP (l:List Nat):∀(f f':Nat) (out:List UInt8),l.length<f→l.length<f'→z6V f out l=z6V f' out l:=by
 induction hn:l.length using Nat.strongRecOn generalizing l with
 |_ n ih=>
   intro f f' out h h';obtain⟨f,rfl⟩:∃g,f=g+1:=⟨f-1,by omega⟩;obtain⟨f',rfl⟩:∃g,f'=g+1:=⟨f'-1,by omega⟩;cases l with
   |nil=>rfl
   |cons c t=>
     simp at hn;unfold z6V;split
     ·rfl
     ·split
      ·cases hx:zvTw t with
       |none=>rfl
       |some p=>
         obtain⟨v,m⟩:=p;have:=zf5 hx;exact ih (t.drop m).length (by simp;omega) (t.drop m) rfl f f' _ (by simp;omega) (by simp;omega)
      ·split
       ·rfl
       ·rename_i hb;have hc:=z9Z (c::t);have h1:1≤(zZe (c::t)).toNat:=(by omega);exact ih ((c::t).drop (zZe (c::t)).toNat).length (by simp;omega) _ rfl f f' _ (by simp;omega) (by simp;omega)
def zEm (t:List Nat):Option (List UInt8×List Nat):=z6V (t.length+1) [] t
def zOT (c:Nat):Bool:=c==45||(decide (48≤c)&&decide (c≤57))||(decide (97≤c)&&decide (c≤122))
def wordLen:List Nat→Nat
 | []=>0
 |c::t=>if zOT c then wordLen t+1 else 0
theorem zON (l:List Nat):wordLen l≤l.length:=by
 induction l with
 |nil=>simp[wordLen]
 |cons c t ih=>unfold wordLen;split<;>simp;omega
theorem z9b {c:Nat}{t:List Nat}(h:zOT c=true):wordLen (c::t)=wordLen t+1:=by unfold wordLen;rw[if_pos h];cases t<;>rfl
abbrev Pc:=Nat×List UInt8
def zEz (c:Nat):Bool:=c==32||c==9||c==13
def z7R (c:Nat):Bool:=c==123||c==125||c==58||c==44
def z3RT:Nat→List Pc→List Nat→Option (List Pc)
 |0,_,_=>none
 |_+1,acc,[]=>some acc
 |f+1,acc,c::t=>if zEz c then z3RT f acc t else if z7R c then z3RT f (acc++[(c,[])]) t
   else if c=34 then(match zEm t with|none=>none|some (v,r)=>z3RT f (acc++[(34,v)]) r)
   else if wordLen (c::t)=0 then none else z3RT f (acc++[(119,zU1 ((c::t).take (wordLen (c::t))))]) ((c::t).drop (wordLen (c::t)))
def zvF (l:List Nat):Option (List Pc):=z3RT (l.length+1) [] l
def zEN (p:Pc):List Value:=[.int .u8 (p.1:Int),.string ⟨p.2.toArray⟩]
def z9c (l:List Pc):List Value:=l.flatMap zEN
theorem zpG (l:List Pc)(m:Pc):z9c (l++[m])=z9c l++zEN m:=by simp[z9c]
theorem zq7:(prog.info? 226).map (fun i=>(i.zero,i.size,i.bytes))=some (some (.agg #[.int .u8 0,.string ⟨#[]⟩]),2,24):=by kernel_rfl
theorem zQa (w:World)(a b:Value)(t:TypeId):∀j u,[a,b][j]?=some u→(w.alloc (.cells #[a,b] t)).cell? ((⟨w.heap.size,0,none⟩:Addr).add j)=some u:=by
 intro j u hj
 match j,hj with
 |0,hj=>simp at hj;subst hj;simp[Addr.add]
 |1,hj=>simp at hj;subst hj;simp[Addr.add]
theorem Below.grown' {a w w':World}{row:Option Nat}(h:Below a.heap.size a w)(hg:w.grownBy w' row)(hr:∀g,row=some g→a.heap.size≤g):Below a.heap.size a w':=h.grown hg h.size hr
theorem bq32 (x a:Nat)(h:x=a):((x:Int)==32)=(a==32):=by subst h;rw[Bool.eq_iff_iff];simp;omega
theorem bq9 (x a:Nat)(h:x=a):((x:Int)==9)=(a==9):=by subst h;rw[Bool.eq_iff_iff];simp;omega
theorem bq13 (x a:Nat)(h:x=a):((x:Int)==13)=(a==13):=by subst h;rw[Bool.eq_iff_iff];simp;omega
theorem ztG (x a:Nat)(h:x=a):((x:Int)==123)=(a==123):=by subst h;rw[Bool.eq_iff_iff];simp;omega
theorem z0l (x a:Nat)(h:x=a):((x:Int)==125)=(a==125):=by subst h;rw[Bool.eq_iff_iff];simp;omega
theorem bq58 (x a:Nat)(h:x=a):((x:Int)==58)=(a==58):=by subst h;rw[Bool.eq_iff_iff];simp;omega
theorem bq44 (x a:Nat)(h:x=a):((x:Int)==44)=(a==44):=by subst h;rw[Bool.eq_iff_iff];simp;omega
def pcOk (p:Pc):Prop:=p.1<256∧p.2.length≤8000000
def zu7 (s:ByteArray)(w:World)(e:Ending)(w':World):Prop:=
 Below w.heap.size w w'∧((∃ps v,zvF (lets s)=some ps∧ps.length≤s.size∧(∀p∈ps,pcOk p)∧w'.ownsRow w.heap.size 226 2 v ps.length (z9c ps)∧e=.returned (.tuple #[v,.bool true]))∨
  (zvF (lets s)=none∧e=.returned (.tuple #[.slice none 0 0,.bool false])))
theorem zGy (s:ByteArray)(w:World)(hs:s.size≤2000000):
 Calls prog 100 #[.string s] w fun e w'=>zu7 s w e w':=by
 go_enter func100,ntmps100;go_wp2;go_loopw [4,5] (fun v i wr=>∃(j f:Nat) (acc:List Pc),i=.int .i64 (j:Int)∧j≤s.size∧acc.length≤j∧s.size+1≤j+f∧(∀p∈acc,pcOk p)∧z3RT f acc ((lets s).drop j)=zvF (lets s)∧wr.ownsRow w.heap.size 226 2 v acc.length (z9c acc)∧Below w.heap.size w wr) (fun _ i _=>s.size-(intOf i).toNat)
 case atStart=>exact⟨0,s.size+1,[],rfl,by omega,by simp,by omega,by simp,by unfold zvF;rw[List.drop_zero,zSQ],World.ownsRow_nil _ _ _ _,zD⟩
 case round=>
  obtain⟨i0,hi,hz0,hz1,hz2⟩:=info_parts zq7;obtain⟨j,f,acc,rfl,hjs,hal,hjf,hok,HR,hown,hbl⟩:=hrel;have hR:Hid (z3RT f acc ((lets s).drop j)=zvF (lets s)):=HR;clear HR;by_cases hin:j<s.size
  ·obtain⟨f,rfl⟩:∃f',f=f'+1:=⟨f-1,by omega⟩;have hin':(j:Int)<(s.size:Int):=(by omega);have hcb:(s[j]).toNat<256:=(s[j]).toNat_lt;have hD:Hid ((lets s).drop j=(s[j]).toNat::(lets s).drop (j+1)):=zhG hin;by_cases hbk:(s[j]).toNat=32∨(s[j]).toNat=9∨(s[j]).toNat=13
   ·have hE:Hid (z3RT f acc ((lets s).drop (j+1))=zvF (lets s)):=by
     rw[←hR.out,hD.out,z3RT,if_pos (by unfold zEz;simp;omega)];exact rfl
    clear hR hD;rcases hbk with h|h|h
    all_goals
     have b1:=bq32 _ _ h;have b2:=bq9 _ _ h;have b3:=bq13 _ _ h;simp only [Nat.reduceBEq]at b1 b2 b3;clear h;go_wp2;go_roundw
     case rel=>exact⟨j+1,f,acc,by go_num,by omega,by omega,by omega,hok,hE.out,hown,hbl⟩
     case measure=>simp[intOf];omega
   ·by_cases hmk:(s[j]).toNat=123∨(s[j]).toNat=125∨(s[j]).toNat=58∨(s[j]).toNat=44
    ·have hE:Hid (z3RT f (acc++[((s[j]).toNat,[])]) ((lets s).drop (j+1))=zvF (lets s)):=by
      rw[←hR.out,hD.out,z3RT,if_neg (by unfold zEz;simp;omega),if_pos (by unfold z7R;simp;omega)];exact rfl
     have hok':∀p∈acc++[((s[j]).toNat,[])],pcOk p:=by
      intro p hp;rcases List.mem_append.1 hp with hp|hp
      ·exact hok p hp
      ·simp at hp;subst hp;exact⟨hcb,by simp⟩
     clear hR hD hbk hok;rcases hmk with h|h|h|h
     all_goals
      have b1:=bq32 _ _ h;have b2:=bq9 _ _ h;have b3:=bq13 _ _ h;have b4:=ztG _ _ h;have b5:=z0l _ _ h;have b6:=bq58 _ _ h;have b7:=bq44 _ _ h;simp only [Nat.reduceBEq]at b1 b2 b3 b4 b5 b6 b7;clear h;have hzz:=hbl.size;go_wp2_with (at_builtin;refine wpList_append_own _ rfl _ _ 222 rfl w.heap.size 226 i0 (.agg #[.int .u8 0,.string ⟨#[]⟩]) 2 24 underlying222 hi hz0 hz1 hz2 rfl (by decide) _ _ _ rfl (hown.alloc _) ⟨wr.heap.size,0,none⟩ 1 1 (zEN ((s[j]).toNat,[])) rfl rfl ?c1 ?c2 ?c3 ?c4 ?c5 ?_)
      case c1=>simpa [zEN]using zQa wr (.int .u8 ((s[j]).toNat:Int)) (.string ⟨#[]⟩) 226
      case c2=>
       intro u hu;simp[zEN]at hu;rcases hu with rfl|rfl<;>rfl
      case c3=>unfold maxLen;omega
      case c4=>omega
      case c5=>simp;omega
      intro v5 w5 own5 grow5 _;have hrow:=zYv hown;have hb5:Below w.heap.size w w5:=Below.grown' (hbl.alloc (by omega) _) grow5 hrow;rw[←zpG]at own5;have own6:w5.ownsRow w.heap.size 226 2 v5 (acc++[((s[j]).toNat,[])]).length (z9c (acc++[((s[j]).toNat,[])])):=(by simpa using own5);clear own5 grow5 hrow hown;generalize hacc:acc++[((s[j]).toNat,[])]=acc' at*;have hal':acc'.length≤j+1:=(by rw[←hacc];simp;omega);go_wp2;go_roundw
      case rel=>exact⟨j+1,f,acc',by go_num,by omega,hal',by omega,hok',hE.out,own6,hb5⟩
      case measure=>simp[intOf];omega
    ·have hnb:¬zEz (s[j]).toNat=true:=(by unfold zEz;simp;omega);have hnm:¬z7R (s[j]).toNat=true:=(by unfold z7R;simp;omega);have b1:(((s[j]).toNat:Int)==32)=false:=(by simp;omega);have b2:(((s[j]).toNat:Int)==9)=false:=(by simp;omega);have b3:(((s[j]).toNat:Int)==13)=false:=(by simp;omega);have b4:(((s[j]).toNat:Int)==123)=false:=(by simp;omega);have b5:(((s[j]).toNat:Int)==125)=false:=(by simp;omega);have b6:(((s[j]).toNat:Int)==58)=false:=(by simp;omega);have b7:(((s[j]).toNat:Int)==44)=false:=(by simp;omega);clear hbk hmk;have hzz:=hbl.size;by_cases h34:(s[j]).toNat=34
     ·have b8:(((s[j]).toNat:Int)==34)=true:=(by simp;omega);have hS:Hid (zvF (lets s)=match z6V (s.size+1) [] ((lets s).drop (j+1))with|none=>none|some (v,r)=>z3RT f (acc++[((s[j]).toNat,v)]) r):=by
       rw[←hR.out,hD.out,z3RT,if_neg hnb,if_neg hnm,if_pos h34,h34];have hll:((lets s).drop (j+1)).length<s.size+1:=(by rw[List.length_drop,zSQ];omega);rw[zeP ((lets s).drop (j+1)) (s.size+1) (((lets s).drop (j+1)).length+1) [] hll (by omega)];exact rfl
      clear hR hD hnb hnm h34;go_wp2_with fail;refine(quoted_any s j _ hs hin).mono ?_;rintro e w2 ⟨hb2,⟨v,j2,hq,hj1,hj2,hvl,rfl⟩|⟨hq,rfl⟩⟩
      all_goals
       have hbl2:Below w.heap.size w w2:=hbl.trans (hb2.mono hbl.size);have hz2':=hbl2.size
      ·have hE:Hid (z3RT f (acc++[((s[j]).toNat,v)]) ((lets s).drop j2)=zvF (lets s)):=(by rw[hS.out,hq];exact rfl);have hok':∀p∈acc++[((s[j]).toNat,v)],pcOk p:=by
        intro p hp;rcases List.mem_append.1 hp with hp|hp
        ·exact hok p hp
        ·simp at hp;subst hp;exact⟨hcb,by show v.length≤8000000;omega⟩
       have own2:=zzF hown (Kept.of_below (S:=[]) hb2) (by simp);have hneg:¬((j2:Int)<0):=(by omega);clear hS hq hok hown;go_wp2_with (at_builtin;refine wpList_append_own _ rfl _ _ 222 rfl w.heap.size 226 i0 (.agg #[.int .u8 0,.string ⟨#[]⟩]) 2 24 underlying222 hi hz0 hz1 hz2 rfl (by decide) _ _ _ rfl (own2.alloc _) ⟨w2.heap.size,0,none⟩ 1 1 (zEN ((s[j]).toNat,v)) rfl rfl ?c1 ?c2 ?c3 ?c4 ?c5 ?_)
       case c1=>simpa [zEN]using zQa w2 (.int .u8 ((s[j]).toNat:Int)) (.string ⟨v.toArray⟩) 226
       case c2=>
        intro u hu;simp[zEN]at hu;rcases hu with rfl|rfl<;>rfl
       case c3=>unfold maxLen;omega
       case c4=>omega
       case c5=>simp;omega
       intro v5 w5 own5 grow5 _;have hrow:=zYv own2;have hb5:Below w.heap.size w w5:=Below.grown' (hbl2.alloc (by omega) _) grow5 hrow;rw[←zpG]at own5;have own6:w5.ownsRow w.heap.size 226 2 v5 (acc++[((s[j]).toNat,v)]).length (z9c (acc++[((s[j]).toNat,v)])):=(by simpa using own5);clear own5 grow5 hrow own2;generalize hacc:acc++[((s[j]).toNat,v)]=acc' at*;have hal':acc'.length≤j2:=(by rw[←hacc];simp;omega);go_wp2;go_roundw
       case rel=>exact⟨j2,f,acc',by go_num,by omega,hal',by omega,hok',hE.out,own6,hb5⟩
       case measure=>simp[intOf];omega
      ·have hE:Hid (zvF (lets s)=none):=(by rw[hS.out,hq];exact rfl);clear hS hq;go_wp2;go_ret2;exact⟨hbl2,Or.inr ⟨hE.out,rfl⟩⟩
     ·have b8:(((s[j]).toNat:Int)==34)=false:=(by simp;omega);have hS:Hid (zvF (lets s)=if wordLen ((lets s).drop j)=0 then none else z3RT f (acc++[(119,zU1 (((lets s).drop j).take (wordLen ((lets s).drop j))))]) (((lets s).drop j).drop (wordLen ((lets s).drop j)))):=by
       rw[←hR.out,hD.out,z3RT,if_neg hnb,if_neg hnm,if_neg h34];exact rfl
      have hwl:wordLen ((lets s).drop j)≤s.size-j:=(by have:=zON ((lets s).drop j);rw[List.length_drop,zSQ]at this;exact this);clear hR hD hnb hnm h34;generalize hn:wordLen ((lets s).drop j)=n at*;have hN:Hid (wordLen ((lets s).drop j)=n):=hn;clear hn;go_wp2;go_loop [5] (fun i=>∃(q:Nat),i=.int .i64 (q:Int)∧j≤q∧q≤j+n∧wordLen ((lets s).drop q)+q=n+j) (fun i=>s.size-(intOf i).toNat)
      case atStart=>exact⟨j,rfl,by omega,by omega,by rw[hN.out]⟩
      case round=>
       obtain⟨q,rfl,hjq,hqn,HK⟩:=hrel;have hK:Hid (wordLen ((lets s).drop q)+q=n+j):=HK;clear HK hN;by_cases hgo:∃h:q<s.size,zOT (s[q]).toNat=true
       ·obtain⟨hlt,hwb⟩:=hgo;have hK2:Hid (wordLen ((lets s).drop (q+1))+(q+1)=n+j):=by
         have:=hK.out;rw[zhG hlt,z9b hwb]at this;show _=n+j;omega
        have hk1:q+1≤j+n:=(by have:=hK2.out;omega);have hlt':(q:Int)<(s.size:Int):=(by omega);have hcase:(s[q]).toNat=45∨(48≤(s[q]).toNat∧(s[q]).toNat≤57)∨(97≤(s[q]).toNat∧(s[q]).toNat≤122):=by
         unfold zOT at hwb;simp at hwb;omega
        clear hK hwb;rcases hcase with h|⟨h,h'⟩|⟨h,h'⟩
        ·have c1:(((s[q]).toNat:Int)==45)=true:=(by simp;omega);clear h;go_wp2;go_round
         case rel=>exact⟨q+1,by go_num,by omega,by omega,hK2.out⟩
         case measure=>simp[intOf];omega
        ·have c1:(((s[q]).toNat:Int)==45)=false:=(by simp;omega);have c2:(48:Int)≤((s[q]).toNat:Int):=(by omega);have c3:((s[q]).toNat:Int)≤57:=(by omega);clear h h';go_wp2;go_round
         case rel=>exact⟨q+1,by go_num,by omega,by omega,hK2.out⟩
         case measure=>simp[intOf];omega
        ·have c1:(((s[q]).toNat:Int)==45)=false:=(by simp;omega);have c2:(48:Int)≤((s[q]).toNat:Int):=(by omega);have c3:¬((s[q]).toNat:Int)≤57:=(by omega);have c4:(97:Int)≤((s[q]).toNat:Int):=(by omega);have c5:((s[q]).toNat:Int)≤122:=(by omega);clear h h';go_wp2;go_round
         case rel=>exact⟨q+1,by go_num,by omega,by omega,hK2.out⟩
         case measure=>simp[intOf];omega
       ·have hend:q=j+n:=by
         have hz:wordLen ((lets s).drop q)=0:=by
          by_cases hlt:q<s.size
          ·rw[zhG hlt];unfold wordLen;rw[if_neg (fun h=>hgo ⟨hlt,h⟩)]
          ·rw[zgM (by omega)];rfl
         have:=hK.out;omega
        have hcase:(¬(q:Int)<(s.size:Int))∨(∃h:q<s.size,(q:Int)<(s.size:Int)∧(((s[q]).toNat:Int)==45)=false∧¬(48:Int)≤((s[q]).toNat:Int)∧¬(97:Int)≤((s[q]).toNat:Int))∨
         (∃h:q<s.size,(q:Int)<(s.size:Int)∧(((s[q]).toNat:Int)==45)=false∧(48:Int)≤((s[q]).toNat:Int)∧¬((s[q]).toNat:Int)≤57∧¬(97:Int)≤((s[q]).toNat:Int))∨
         (∃h:q<s.size,(q:Int)<(s.size:Int)∧(((s[q]).toNat:Int)==45)=false∧(48:Int)≤((s[q]).toNat:Int)∧¬((s[q]).toNat:Int)≤57∧(97:Int)≤((s[q]).toNat:Int)∧¬((s[q]).toNat:Int)≤122):=by
         by_cases hlt:q<s.size
         ·right;have hwb:¬zOT (s[q]).toNat=true:=fun h=>hgo ⟨hlt,h⟩;unfold zOT at hwb;simp only [Bool.or_eq_true,Bool.and_eq_true,decide_eq_true_eq,beq_iff_eq]at hwb;have h45:(((s[q]).toNat:Int)==45)=false:=(by simp;omega);have hq':(q:Int)<(s.size:Int):=(by omega);by_cases h1:(s[q]).toNat<48
          ·exact Or.inl ⟨hlt,hq',h45,by omega,by omega⟩
          ·by_cases h2:(s[q]).toNat<97
           ·exact Or.inr (Or.inl ⟨hlt,hq',h45,by omega,by omega,by omega⟩)
           ·exact Or.inr (Or.inr ⟨hlt,hq',h45,by omega,by omega,by omega,by omega⟩)
         ·left;omega
        clear hgo hK;by_cases hn0:n=0
        ·have hE:Hid (zvF (lets s)=none):=(by rw[hS.out,if_pos hn0];exact rfl);have he:((q:Int)==(j:Int))=true:=(by simp;omega);clear hS hn0 hend;rcases hcase with h1|⟨hlt,h1,h2,h3,h4⟩|⟨hlt,h1,h2,h3,h4,h5⟩|⟨hlt,h1,h2,h3,h4,h5,h6⟩
         all_goals
          go_wp2;go_ret2;exact⟨hbl,Or.inr ⟨hE.out,rfl⟩⟩
        ·have hE:Hid (z3RT f (acc++[(119,zU1 (((lets s).drop j).take n))]) ((lets s).drop q)=zvF (lets s)):=by
          rw[hS.out,if_neg hn0,List.drop_drop,hend];exact rfl
         have he:((q:Int)==(j:Int))=false:=(by simp;omega);have hq1:q≤s.size:=(by omega);have hq2:j<q:=(by omega);have hx:s.extract j q=⟨(zU1 (((lets s).drop j).take n)).toArray⟩:=(by rw[hend];exact z5M s j n);have hok':∀p∈acc++[((119:Nat),zU1 (((lets s).drop j).take n))],pcOk p:=by
          intro p hp;rcases List.mem_append.1 hp with hp|hp
          ·exact hok p hp
          ·simp at hp;subst hp;exact⟨by show(119:Nat)<256;omega,by simp[zU1];omega⟩
         generalize zU1 (((lets s).drop j).take n)=wd at*;clear hS hn0 hend hok;have hjq':(j:Int)≤(q:Int):=(by omega);have hqs':(q:Int)≤(s.size:Int):=(by omega);rcases hcase with h1|⟨hlt,h1,h2,h3,h4⟩|⟨hlt,h1,h2,h3,h4,h5⟩|⟨hlt,h1,h2,h3,h4,h5,h6⟩
         all_goals
          go_wp2_with (at_builtin;refine wpList_append_own _ rfl _ _ 222 rfl w.heap.size 226 i0 (.agg #[.int .u8 0,.string ⟨#[]⟩]) 2 24 underlying222 hi hz0 hz1 hz2 rfl (by decide) _ _ _ rfl (hown.alloc _) ⟨wr.heap.size,0,none⟩ 1 1 [.int .u8 119,.string ⟨wd.toArray⟩] rfl rfl ?c1 ?c2 ?c3 ?c4 ?c5 ?_)
          case c2=>exact⟨rfl,rfl⟩
          case c3=>unfold maxLen;omega
          case c4=>omega
          case c5=>omega
          intro v5 w5 own5 grow5 _;have hrow:=zYv hown;have hb5:Below w.heap.size w w5:=Below.grown' (hbl.alloc (by omega) _) grow5 hrow;rw[show [Value.int .u8 119,Value.string ⟨wd.toArray⟩]=zEN ((119:Nat),wd)from rfl,←zpG]at own5;have own6:w5.ownsRow w.heap.size 226 2 v5 (acc++[((119:Nat),wd)]).length (z9c (acc++[((119:Nat),wd)])):=(by simpa using own5);clear own5 grow5 hrow hown;generalize hacc:acc++[((119:Nat),wd)]=acc' at*;have hal':acc'.length≤q:=(by rw[←hacc];simp;omega);go_wp2;go_roundw
          case rel=>exact⟨q,f,acc',by go_num,by omega,hal',by omega,hok',hE.out,own6,hb5⟩
          case measure=>simp[intOf];omega
  ·have hE:Hid (zvF (lets s)=some acc):=by
    rw[←hR.out,zgM (by omega)];obtain⟨f,rfl⟩:∃f',f=f'+1:=⟨f-1,by omega⟩;exact rfl
   have hin':¬(j:Int)<(s.size:Int):=(by omega);clear hR;go_wp2;go_ret2;exact⟨hbl,Or.inl ⟨acc,_,hE.out,by omega,hok,hown,rfl⟩⟩
end Go.Proofs.YtbbkihekjdffpaaGreatDoor
