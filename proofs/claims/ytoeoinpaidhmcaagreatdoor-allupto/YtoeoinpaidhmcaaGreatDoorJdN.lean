/- Several texts in one. -/
import Derived.Test.YtoeoinpaidhmcaaGreatDoorJdH
import Derived.Test.YtoeoinpaidhmcaaGreatDoorSrchBX
set_option maxHeartbeats 8000000
set_option maxRecDepth 100000
namespace Go.Proofs.YtoeoinpaidhmcaaGreatDoor.jd
open Tryz
open Go.RowKit
open srch (vAg opAg tI OAt zOu)
def zy1 (done:List UInt8)(P:List OpV)(i:Nat):Bool:=done[i]?.getD 0==48&&decide (0<(P[i]?.getD z1u).ret)
def z0d (P:List OpV)(done:List UInt8):Bool:=!(List.range P.length).any (zy1 done P)
theorem zu4 (D K:Option Addr)(N Q:Nat)(h P:List OpV)(part:List Nat)(a:List UInt8)(w:World)(R:OAt w D h)(M:IAt w K part)(B:zrE h part P)(J:a.length=P.length)(Y:P.length≤1000):
 Calls prog 80 #[.slice D h.length N,.slice K part.length Q,.string ⟨a.toArray⟩] w fun e w'=>e=.returned (.bool (z0d P a))∧Below w.heap.size w w':=by
 obtain⟨g,d⟩:∃g,g=z0d P a:=⟨_,rfl⟩;rw[←d];have o:Hid _:=d;have V:Hid _:=B.1;rw[B.1];clear d;go_enter func80,ntmps80;go_wp2_with fail;go_loopw [7] (fun i wr=>∃(j:Nat),i=.int .i64 (j:Int)∧j≤P.length∧Hid (∀q,q<j→zy1 a P q=false)∧Hid (Below w.heap.size w wr)) (fun i _=>P.length-(intOf i).toNat)
 case atStart=>exact⟨0,rfl,by omega,fun q m=>absurd m (by omega),zD⟩
 case round=>
  obtain⟨j,rfl,Z,HL,k⟩:=hrel;by_cases hin:j<P.length
  ·have z:(j:Int)<(P.length:Int):=(by omega);obtain⟨y,G⟩:∃y,P[j]?=some y:=⟨_,zC hin⟩;obtain⟨p,v,F⟩:=B.2 j y G;obtain⟨E,rfl,H,u⟩:=M (by rintro rfl;simp at v);obtain⟨C,rfl,I,S,t⟩:=zRO R F;have W:(p:Int)<(h.length:Int):=(by omega);have xj:wr.cell? ⟨E,j,none⟩=some (.int .i64 (p:Int)):=(k.out.cell (p:=⟨E,j,none⟩) H).trans (u j p v);have q7:wr.cell? ⟨C,p*10+7,none⟩=some (.int .i64 y.ret):=(k.out.cell (p:=⟨C,p*10+7,none⟩) I).trans (t 7 _ (by decide) rfl);have s:j<a.length:=(by omega);have O:(j:Int)<(a.length:Int):=(by omega);have L:j<(⟨a.toArray⟩:ByteArray).size:=(by show j<a.toArray.size;simpa using s);have r:(⟨a.toArray⟩:ByteArray)[j]'L=a[j]:=(by show a.toArray[j]'(by simpa using s)=a[j];simp);have x:((((⟨a.toArray⟩:ByteArray)[j]'L).toNat:Int)==48)=(a[j]==48):=by
    rw[r,Bool.eq_iff_iff];simp only [beq_iff_eq];constructor
    ·intro e;exact UInt8.toNat_inj.1 (by show a[j].toNat=48;omega)
    ·intro e;rw[e];rfl
   have b:zy1 a P j=(a[j]==48&&decide (0<y.ret)):=by
    unfold zy1;rw[G,zC s];rfl
   have U:IntKind.i64.wrap ((j:Int)+1)=(j:Int)+1:=(by go_arith);generalize hdd:(a[j]==48)=d48 at x b;have X:Hid _:=J;clear hdd r t u J;cases d48
   ·have A:Hid (zy1 a P j=false):=(by show _=_;rw[b];rfl);clear b;go_wp2_with fail;go_roundw
    case rel=>exact⟨j+1,by go_num,by omega,fun q m=>by
     by_cases e:q=j
     ·subst e;exact A.out
     ·exact HL.out q (by omega),k.out⟩
    case measure=>simp[intOf];omega
   ·by_cases c2:0<y.ret
    ·have n:decide (0<y.ret)=true:=(by simpa using c2);have l:Hid (g=false):=by
      show _=_;rw[o.out,z0d,Bool.not_eq_false',List.any_eq_true];exact⟨j,by simpa using hin,by rw[b,n];rfl⟩
     clear b;go_wp2_with fail;go_ret;exact⟨by rw[l.out];rfl,k.out⟩
    ·have n:decide (0<y.ret)=false:=(by simpa using c2);have A:Hid (zy1 a P j=false):=(by show _=_;rw[b,n];rfl);clear b c2;go_wp2_with fail;go_roundw
     case rel=>exact⟨j+1,by go_num,by omega,fun q m=>by
      by_cases e:q=j
      ·subst e;exact A.out
      ·exact HL.out q (by omega),k.out⟩
     case measure=>simp[intOf];omega
  ·have z:¬(j:Int)<(P.length:Int):=(by omega);have l:Hid (g=true):=by
    show _=_;rw[o.out,z0d,Bool.not_eq_true',List.any_eq_false];intro q m;rw[HL.out q (by have:=List.mem_range.1 m;omega)];simp
   go_wp2_with fail;go_ret;exact⟨by rw[l.out];rfl,k.out⟩
theorem zhR (a:List UInt8)(w:World)(s:a.length≤1000):
 Calls prog 104 #[.string ⟨a.toArray⟩] w fun e w'=>e=.returned (.int .i64 ((a.count 49:Nat):Int))∧w'=w:=by
 go_enter func104,ntmps104;go_wp2_with fail;go_loop [3,4] (fun n i=>∃(x j:Nat),n=.int .i64 (x:Int)∧i=.int .i64 (j:Int)∧j≤a.length∧x≤j∧Hid (x=(a.take j).count 49)) (fun _ i=>a.length-(intOf i).toNat)
 case atStart=>exact⟨0,0,rfl,rfl,by omega,by omega,by exact rfl⟩
 case round=>
  obtain⟨x,j,rfl,rfl,t,u,k⟩:=hrel;by_cases hin:j<a.length
  ·have l:(j:Int)<(a.length:Int):=(by omega);have o:j<(⟨a.toArray⟩:ByteArray).size:=(by show j<a.toArray.size;simpa using hin);have b:(⟨a.toArray⟩:ByteArray)[j]'o=a[j]:=(by show a.toArray[j]'(by simpa using hin)=a[j];simp);have q:IntKind.i64.wrap ((j:Int)+1)=(j:Int)+1:=(by go_arith);have r:IntKind.i64.wrap ((x:Int)+1)=(x:Int)+1:=(by go_arith);have d:(a.take (j+1)).count 49=(a.take j).count 49+(if a[j]=49 then 1 else 0):=by
    rw[List.take_succ_eq_append_getElem hin,List.count_append,List.count_singleton];simp
   by_cases h:a[j]=49
   ·have m:((((⟨a.toArray⟩:ByteArray)[j]'o).toNat:Int)==49)=true:=(by rw[b,h];decide);rw[if_pos h]at d;have g:Hid _:=d;clear b d;go_wp2_with fail;go_round
    case rel=>exact⟨x+1,j+1,by go_num,by go_num,by omega,by omega,by show x+1=_;rw[g.out,←k.out]⟩
    case measure=>simp[intOf];omega
   ·have m:((((⟨a.toArray⟩:ByteArray)[j]'o).toNat:Int)==49)=false:=by
     rw[b];have:a[j].toNat≠49:=fun e=>h (UInt8.toNat_inj.1 e);simp;omega
    rw[if_neg h]at d;have g:Hid _:=d;clear b d;go_wp2_with fail;go_round
    case rel=>exact⟨x,j+1,by go_num,by go_num,by omega,by omega,by show x=_;rw[g.out,←k.out];rfl⟩
    case measure=>simp[intOf];omega
  ·have l:¬(j:Int)<(a.length:Int):=(by omega);have p:Hid (x=a.count 49):=(by show _=_;rw[k.out,List.take_of_length_le (by omega)]);go_wp2_with fail;go_ret;exact⟨by rw[←p.out];rfl,rfl⟩
def isP (P:List OpV)(L:List Cf):Bool:=L.any (fun c=>z0d P c.1)
def mostP (L:List Cf):Nat:=L.foldl (fun n c=>max n (c.1.count 49)) 0
theorem zxN (P:List OpV)(L:List Cf)(c:Cf):isP P (L++[c])=(isP P L||z0d P c.1):=by simp[isP]
theorem z1Q (L:List Cf)(c:Cf):mostP (L++[c])=max (mostP L) (c.1.count 49):=by simp[mostP]
def vdAg (kn is:Bool)(most many:Nat):Value:=.agg #[.bool kn,.bool is,.int .i64 (most:Int),.int .i64 (many:Int)]
def zDK (m:List UInt8)(P:List OpV)(room:Nat)(w:World)(e:Ending)(w':World):Prop:=
 ∃L kn,Cfs m P room L kn∧L.length≤room+2000∧e=.returned (vdAg kn (isP P L) (mostP L) L.length)∧Below w.heap.size w w'
theorem zXf {w:World}{d g e:Nat}{L:List Cf}(h:w.ownsRow d 160 2 (.slice (some ⟨g,0,none⟩) L.length e) L.length (zKT L)){i:Nat}{c:Cf}(l:L[i]?=some c):w.cell? ⟨g,i*2,none⟩=some (.string ⟨c.1.toArray⟩)∧w.cell? ⟨g,i*2+1,none⟩=some (.string ⟨c.2.toArray⟩):=by
 obtain⟨k,j⟩:=zaw L i c l;have a:=h.cells (g:=g) rfl _ _ k;have b:=h.cells (g:=g) rfl _ _ j;rw[Addr.add_lit,Nat.zero_add]at a b;exact⟨a,b⟩
theorem vd4 {W:World}{b:Nat}{i j k l:Value}(h:W.heap[b]?=some (.cells #[i,j,k,l] 106 (0,0)))(e g a d:Value):
 ((((W.setCell ⟨b,0,none⟩ e).setCell ⟨b,1,none⟩ g).setCell ⟨b,2,none⟩ a).setCell ⟨b,3,none⟩ d).heap[b]?=some (.cells #[e,g,a,d] 106 (0,0))∧Kept [b] W ((((W.setCell ⟨b,0,none⟩ e).setCell ⟨b,1,none⟩ g).setCell ⟨b,2,none⟩ a).setCell ⟨b,3,none⟩ d):=by
 refine⟨by rw[zFg (zFg (zFg (zFg h 0 _) 1 _) 2 _) 3 _];rfl,?_⟩;exact((((Kept.refl _ _).setCell (p:=⟨b,0,none⟩) (Or.inl (by simp)) _).setCell (p:=⟨b,1,none⟩) (Or.inl (by simp)) _).setCell (p:=⟨b,2,none⟩) (Or.inl (by simp)) _).setCell (p:=⟨b,3,none⟩) (Or.inl (by simp)) _
theorem zM5 (i:Array Value)(W:World)(b:Nat)(g h d e:Value)(l:i[8]?.getD undef=.pointer (some ⟨b,0,none⟩))(a:W.heap[b]?=some (.cells #[g,h,d,e] 106 (0,0))):
 (results Tryz.f75 i).run prog W=.ok (.agg #[g,h,d,e]) W:=by
 have c0:W.cell? ⟨b,0,none⟩=some g:=by rw[zBk a];rfl
 have c1:W.cell? ⟨b,1,none⟩=some h:=by rw[zBk a];rfl
 have j:W.cell? ⟨b,2,none⟩=some d:=by rw[zBk a];rfl
 have k:W.cell? ⟨b,3,none⟩=some e:=by rw[zBk a];rfl
 simp[results,results75,go_sem,l,c0,c1,j,k]
theorem znZ (m:List UInt8)(hm:five m)(oa pa:Option Addr)(oc pc:Nat)(q P:List OpV)(part:List Nat)(s:Nat)(w:World)(D:OAt w oa q)(E:IAt w pa part)(Y:zrE q part P)(hl:P.length≤1000)(al:q.length≤1000)(ab:∀o∈P,okO o)(Z:s≤900000):
 Calls prog 75 #[.string ⟨m.toArray⟩,.slice oa q.length oc,.slice pa part.length pc,.int .i64 (s:Int)] w (zDK m P s w):=by
 have ax:Hid _:=Y.1;have X:=fun w D E=>zxq m hm oa pa oc pc q P part s w D E Y hl al ab Z;have ag:=fun done w D E hd=>zu4 oa pa oc pc q P part done w D E Y hd hl;rw[Y.1]at X ag⊢;obtain⟨n,ar,H,ae⟩:∃n,w.alloc (.cells #[.bool false,.bool false,.int .i64 0,.int .i64 0] 106)=n∧Below w.heap.size w n∧n.heap[w.heap.size]?=some (.cells #[.bool false,.bool false,.int .i64 0,.int .i64 0] 106 (0,0)):=⟨_,rfl,zA _ _,ziF _ _ _ rfl⟩;have O:=X n (D.below H) (E.below H);have F:Hid _:=(⟨H,ae,D,E⟩:_∧_∧_∧_);clear H ae D E X;go_enter func75,ntmps75;go_wp2_with fail;refine O.mono ?_;rintro e a ⟨L,la,lc,A,rfl,x,J,ao,hC⟩;have HC:Hid _:=hC;obtain⟨t,au,R,aj⟩:∃t,a.alloc (.cells #[.bool A,.bool false,.int .i64 0,.int .i64 (L.length:Int)] 106)=t∧Below a.heap.size a t∧t.heap[a.heap.size]?=some (.cells #[.bool A,.bool false,.int .i64 0,.int .i64 (L.length:Int)] 106 (0,0)):=⟨_,rfl,zA _ _,ziF _ _ _ rfl⟩;have ai:=zmP x (Kept.of_below (S:=[]) R) (by simp);have M:Below n.heap.size n t:=J.trans (R.mono J.size);have l:Hid _:=(⟨aj,ai,M,J.size⟩:_∧_∧_∧_);clear aj ai M J R x hC O;go_wp2_with fail;go_loopw [12] (fun s12 wr=>∃(i:Nat),s12=.int .i64 (i:Int)∧i≤L.length∧Hid (wr.heap[a.heap.size]?=some (.cells #[.bool A,.bool (isP P (L.take i)),.int .i64 (mostP (L.take i):Int),.int .i64 (L.length:Int)] 106 (0,0)))∧Hid (Kept [a.heap.size] t wr)) (fun s12 _=>L.length-(intOf s12).toNat)
 case atStart=>exact⟨0,rfl,by omega,l.out.1,Kept.refl _ _⟩
 case round=>
  obtain⟨i,rfl,hi,G,HK⟩:=hrel;have an:=l.out.2.2.2;have am:w.heap.size<n.heap.size:=zBq F.out.2.1;have ad:Hid (Below n.heap.size n wr):=l.out.2.2.1.trans (HK.out.below l.out.2.2.1.size (by simp;exact an));have u:Hid (Below w.heap.size w wr):=F.out.1.trans (ad.out.mono F.out.1.size);by_cases hin:i<L.length
  ·have ak:(i:Int)<(L.length:Int):=(by omega);obtain⟨c,B⟩:∃c,L[i]?=some c:=⟨_,zC hin⟩;have W:okC P c:=(HC.out.all c (List.mem_of_getElem? B)).ok ab (z7m m P);obtain⟨gl,rfl,Q⟩:∃g,la=some ⟨g,0,none⟩∧g≠a.heap.size:=by
    rcases zzD l.out.2.1 with ⟨_,e⟩|⟨g,aw,e,_⟩
    ·omega
    ·injection e with e;refine⟨g,e,fun e2=>?_⟩;subst e2;rcases l.out.2.1.2 with ⟨e3,_⟩|⟨g',aq,av,v,_,r,_⟩
     ·rw[e]at e3;cases e3
     ·rw[e]at v;injection v with v;injection v with v;injection v with v;subst v;rw[l.out.1]at r;injection r with r;injection r with _ h3 _;exact absurd h3 (by decide)
   have x:=zmP l.out.2.1 HK.out (fun g hg=>by simp[Value.ownBlock]at hg;subst hg;simpa using Q);obtain⟨r0,r1⟩:=zXf x B;have hw:=ag c.1 wr (F.out.2.2.1.below u.out) (F.out.2.2.2.below u.out) W.1;have ah:=fun w=>zhR c.1 w (W.few hl).1;have ay:IntKind.i64.wrap ((i:Int)+1)=(i:Int)+1:=(by go_arith);clear x;go_wp2_with fail;refine hw.mono ?_;rintro e U ⟨rfl,V⟩;have I:=(V.block _ (zBq G.out)).trans G.out;have aa:Kept [a.heap.size] t U:=HK.out.trans (Kept.of_below (S:=[a.heap.size]) V);have ht:L.take (i+1)=L.take i++[c]:=(by rw[List.take_add_one,B];rfl);have h:=zxN P (L.take i) c;have k:=z1Q (L.take i) c;rw[←ht]at h k;generalize isP P (L.take i)=b1 at*;generalize mostP (L.take i)=mo at*;generalize z0d P c.1=b2 at*;have v1:U.cell? ⟨a.heap.size,1,none⟩=some (.bool b1):=zBk I 1;have z1:U.frozen? ⟨a.heap.size,1,none⟩=false:=zBn I 1;have z:Hid _:=(⟨I,aa⟩:_∧_);clear hw I aa V ht;have af:Hid _:=(⟨z.out.1,z.out.2,trivial⟩:_∧_∧True);clear z;have z:=af;clear af;cases b1
   ·have K:Hid _:=And.intro h k;clear h k;obtain⟨b,y⟩:∃b,U.setCell ⟨a.heap.size,1,none⟩ (.bool b2)=b:=⟨_,rfl⟩;have d:b.heap[a.heap.size]?=some (.cells #[.bool A,.bool b2,.int .i64 (mo:Int),.int .i64 (L.length:Int)] 106 (0,0)):=(by rw[←y,zFg z.out.1 1 _];rfl);have j:Kept [a.heap.size] t b:=(by rw[←y];exact z.out.2.1.setCell (p:=⟨a.heap.size,1,none⟩) (Or.inl (by simp)) _);have C:=zmP l.out.2.1 j (fun g hg=>by simp[Value.ownBlock]at hg;subst hg;simpa using Q);have r4:=(zXf C B).1;have v2:b.cell? ⟨a.heap.size,2,none⟩=some (.int .i64 (mo:Int)):=zBk d 2;have z2:b.frozen? ⟨a.heap.size,2,none⟩=false:=zBn d 2;have N:Hid _:=And.intro d j;clear d j C;go_wp2_with fail;go_region_law (first
     | (go_simp;go_at_call 104;refine(ah _).mono ?_;rintro e w5 ⟨rfl,rfl⟩))
    all_goals
     go_wp2_with fail;go_roundw
     case rel=>exact⟨i+1,by go_num,by omega,by
      show _=_;rw[K.out.1,K.out.2];show(b.setCell ⟨a.heap.size,2,none⟩ (.int .i64 (max (mo:Int) (c.1.count 49:Nat)))).heap[a.heap.size]?=_;rw[zFg N.out.1 2 _];simp;omega,(N.out.2.setCell (p:=⟨a.heap.size,2,none⟩) (Or.inl (by simp)) _).drew⟩
     case measure=>simp[intOf];omega
   ·have K:Hid _:=And.intro h k;clear h k;obtain⟨b,y⟩:∃b,U.setCell ⟨a.heap.size,1,none⟩ (.bool true)=b:=⟨_,rfl⟩;have d:b.heap[a.heap.size]?=some (.cells #[.bool A,.bool true,.int .i64 (mo:Int),.int .i64 (L.length:Int)] 106 (0,0)):=(by rw[←y,zFg z.out.1 1 _];rfl);have j:Kept [a.heap.size] t b:=(by rw[←y];exact z.out.2.1.setCell (p:=⟨a.heap.size,1,none⟩) (Or.inl (by simp)) _);have C:=zmP l.out.2.1 j (fun g hg=>by simp[Value.ownBlock]at hg;subst hg;simpa using Q);have r4:=(zXf C B).1;have v2:b.cell? ⟨a.heap.size,2,none⟩=some (.int .i64 (mo:Int)):=zBk d 2;have z2:b.frozen? ⟨a.heap.size,2,none⟩=false:=zBn d 2;have N:Hid _:=And.intro d j;clear d j C;go_wp2_with fail;go_region_law (first
     | (go_simp;go_at_call 104;refine(ah _).mono ?_;rintro e w5 ⟨rfl,rfl⟩))
    all_goals
     go_wp2_with fail;go_roundw
     case rel=>exact⟨i+1,by go_num,by omega,by
      show _=_;rw[K.out.1,K.out.2];show(b.setCell ⟨a.heap.size,2,none⟩ (.int .i64 (max (mo:Int) (c.1.count 49:Nat)))).heap[a.heap.size]?=_;rw[zFg N.out.1 2 _];simp;omega,(N.out.2.setCell (p:=⟨a.heap.size,2,none⟩) (Or.inl (by simp)) _).drew⟩
     case measure=>simp[intOf];omega
  ·obtain rfl:i=L.length:=(by omega);have ak:¬(L.length:Int)<(L.length:Int):=(by omega);rw[List.take_length]at G;have r0:=F.out.2.1;have hR:=(ad.out.block _ am).trans F.out.2.1;have r0:wr.cell? ⟨w.heap.size,0,none⟩=some (.bool false):=zBk hR 0;have r1:wr.cell? ⟨w.heap.size,1,none⟩=some (.bool false):=zBk hR 1;have r2:wr.cell? ⟨w.heap.size,2,none⟩=some (.int .i64 0):=zBk hR 2;have r3:wr.cell? ⟨w.heap.size,3,none⟩=some (.int .i64 0):=zBk hR 3;have z0:=zBn hR 0;have z1:=zBn hR 1;have z2:=zBn hR 2;have z3:=zBn hR 3;have v0:wr.cell? ⟨a.heap.size,0,none⟩=some (.bool A):=zBk G.out 0;have v1:wr.cell? ⟨a.heap.size,1,none⟩=some (.bool (isP P L)):=zBk G.out 1;have v2:wr.cell? ⟨a.heap.size,2,none⟩=some (.int .i64 (mostP L:Int)):=zBk G.out 2;have v3:wr.cell? ⟨a.heap.size,3,none⟩=some (.int .i64 (L.length:Int)):=zBk G.out 3;have HR:Hid _:=hR;clear hR;go_wp2_with fail;obtain⟨f1,f2⟩:=vd4 HR.out (.bool A) (.bool (isP P L)) (.int .i64 (mostP L:Int)) (.int .i64 (L.length:Int));exact bodyPost_ret (zM5 _ _ w.heap.size _ _ _ _ (by simp) f1) rfl ⟨L,A,HC.out,ao,rfl,u.out.trans (f2.below u.out.size (by simp))⟩
def z04 (part:List Nat)(x:Nat):Int:=match part.idxOf? x with
 |some k=>(k:Int)
 |none=> -1
theorem ze4 {part:List Nat}{x k:Nat}(h:part[k]?=some x)(a:∀q,q<k→part[q]?≠some x):part.idxOf? x=some k:=by
 induction part generalizing k with
 |nil=>simp at h
 |cons y t ih=>
   cases k with
   |zero=>simp at h;subst h;simp[List.idxOf?_cons]
   |succ k=>
     have b:y≠x:=fun e=>a 0 (by omega) (by simp[e]);rw[List.idxOf?_cons,if_neg (by simpa using b),ih (by simpa using h) (fun q hq=>by simpa using a (q+1) (by omega))];rfl
theorem zZd {part:List Nat}{x:Nat}(d:∀q:Nat,part[q]?≠some x):part.idxOf? x=none:=by
 rw[List.idxOf?_eq_none_iff];intro a;obtain⟨q,b⟩:=List.mem_iff_getElem?.1 a;exact d q b
theorem zVC (v:Option Addr)(B:Nat)(part:List Nat)(x:Nat)(w:World)(A:IAt w v part)(D:part.length≤1000):
 Calls prog 78 #[.slice v part.length B,.int .i64 (x:Int)] w fun e w'=>e=.returned (.int .i64 (z04 part x))∧Below w.heap.size w w':=by
 obtain⟨b,a⟩:∃b,b=z04 part x:=⟨_,rfl⟩;rw[←a];have g:Hid _:=a;clear a;go_enter func78,ntmps78;go_wp2_with fail;go_loopw [5] (fun i wr=>∃(j:Nat),i=.int .i64 (j:Int)∧j≤part.length∧Hid (∀q,q<j→part[q]?≠some x)∧Hid (Below w.heap.size w wr)) (fun i _=>part.length-(intOf i).toNat)
 case atStart=>exact⟨0,rfl,by omega,fun q d=>absurd d (by omega),zD⟩
 case round=>
  obtain⟨j,rfl,E,HL,l⟩:=hrel;by_cases hin:j<part.length
  ·have n:(j:Int)<(part.length:Int):=(by omega);obtain⟨y,m⟩:∃y,part[j]?=some y:=⟨_,zC hin⟩;obtain⟨t,rfl,u,s⟩:=A (by rintro rfl;simp at m);have F:wr.cell? ⟨t,j,none⟩=some (.int .i64 (y:Int)):=(l.out.cell (p:=⟨t,j,none⟩) u).trans (s j y m);have C:IntKind.i64.wrap ((j:Int)+1)=(j:Int)+1:=(by go_arith);by_cases hyx:y=x
   ·have o:((y:Int)==(x:Int))=true:=(by simp[hyx]);have r:Hid (b=(j:Int)):=(by show _=_;rw[g.out,z04,ze4 (k:=j) (by rw[m,hyx]) HL.out]);clear hyx;go_wp2_with fail;go_ret;exact⟨by rw[r.out];rfl,l.out⟩
   ·have o:((y:Int)==(x:Int))=false:=(by rw[beq_eq_false_iff_ne];omega);have z:Hid (∀q,q<j+1→part[q]?≠some x):=fun q d=>by
     by_cases e:q=j
     ·subst e;rw[m];intro h;injection h with h;exact hyx h
     ·exact HL.out q (by omega)
    clear hyx;go_wp2_with fail;go_roundw
    case rel=>exact⟨j+1,by go_num,by omega,z,l⟩
    case measure=>simp[intOf];omega
  ·have n:¬(j:Int)<(part.length:Int):=(by omega);have r:Hid (b= -1):=by
    show _=_;rw[g.out,z04,zZd];intro q d;exact HL.out q (by have:=(zB d).1;omega) d
   go_wp2_with fail;go_ret;exact⟨by rw[r.out];rfl,l.out⟩
theorem zKV {w:World}{g p:Nat}{o:OpV}(h:∀c u,c<10→(opvCells o)[c]?=some u→w.cell? ⟨g,p*10+c,none⟩=some u):w.cell? ⟨g,p*10,none⟩=some (.int .i64 o.id)∧w.cell? ⟨g,p*10+1,none⟩=some (.int .i64 o.cl)∧w.cell? ⟨g,p*10+2,none⟩=some (.string ⟨o.name.toArray⟩)∧w.cell? ⟨g,p*10+3,none⟩=some (.string ⟨o.key.toArray⟩)∧w.cell? ⟨g,p*10+4,none⟩=some (.int .i64 o.arg)∧w.cell? ⟨g,p*10+5,none⟩=some (.int .i64 o.exp)∧w.cell? ⟨g,p*10+6,none⟩=some (.int .i64 o.call)∧w.cell? ⟨g,p*10+7,none⟩=some (.int .i64 o.ret)∧w.cell? ⟨g,p*10+8,none⟩=some (.int .i64 o.vk)∧w.cell? ⟨g,p*10+9,none⟩=some (.int .i64 o.vn):=
 ⟨h 0 _ (by decide) rfl,h 1 _ (by decide) rfl,h 2 _ (by decide) rfl,h 3 _ (by decide) rfl,h 4 _ (by decide) rfl,h 5 _ (by decide) rfl,h 6 _ (by decide) rfl,h 7 _ (by decide) rfl,h 8 _ (by decide) rfl,h 9 _ (by decide) rfl⟩
def z8Z (Q:List OpV):Prop:=∀(i k:Nat) (a b:OpV),k<i→Q[i]?=some a→Q[k]?=some b→¬(0<a.ret∧a.ret<b.call)
theorem zS4 (oa Z:Option Addr)(oc rc:Nat)(m Q:List OpV)(g:List Nat)(w:World)(X:OAt w oa m)(hr:IAt w Z g)(B:zrE m g Q)(hl:Q.length≤1000)(S:z8Z Q):
 Calls prog 77 #[.slice oa m.length oc,.slice Z g.length rc] w fun e w'=>e=.returned (.bool true)∧Below w.heap.size w w':=by
 rw[B.1];have HQ:Hid _:=B;go_enter func77,ntmps77;go_wp2_with fail;go_loopw [5] (fun i wr=>∃(j:Nat),i=.int .i64 (j:Int)∧j≤Q.length∧Hid (Below w.heap.size w wr)) (fun i _=>Q.length-(intOf i).toNat)
 case atStart=>exact⟨0,rfl,by omega,zD⟩
 case round=>
  obtain⟨j,rfl,hj,l⟩:=hrel;by_cases hin:j<Q.length
  ·have N:(j:Int)<(Q.length:Int):=(by omega);have ai:IntKind.i64.wrap ((j:Int)+1)=(j:Int)+1:=(by go_arith);go_wp2_with fail;go_loopw [6] (fun i wx=>∃(k:Nat),i=.int .i64 (k:Int)∧k≤j∧Hid (Below w.heap.size w wx)) (fun i _=>j-(intOf i).toNat)
   case atStart=>exact⟨0,rfl,by omega,l⟩
   case round=>
    clear l;obtain⟨k,rfl,hk,l⟩:=hrel;by_cases hkin:k<j
    ·have C:(k:Int)<(j:Int):=(by omega);have aj:(k:Int)<(Q.length:Int):=(by omega);have ak:IntKind.i64.wrap ((k:Int)+1)=(k:Int)+1:=(by go_arith);obtain⟨a,R⟩:∃a,Q[j]?=some a:=⟨_,zC hin⟩;obtain⟨b,Y⟩:∃b,Q[k]?=some b:=⟨_,zC (by omega)⟩;have x:=S j k a b hkin R Y;obtain⟨v,D,P⟩:=B.2 j a R;obtain⟨z,U,ab⟩:=B.2 k b Y;obtain⟨A,rfl,I,r⟩:=hr (by rintro rfl;simp at D);obtain⟨t,rfl,K,af,J⟩:=zRO X P;obtain⟨W,O,_,ag,M⟩:=zRO X ab;obtain rfl:t=W:=(by injection O with e;injection e);have ad:(v:Int)<(m.length:Int):=(by omega);have ae:(z:Int)<(m.length:Int):=(by omega);have q:Hid (∀V:World,Below w.heap.size w V→V.cell? ⟨A,j,none⟩=some (.int .i64 (v:Int))∧V.cell? ⟨A,k,none⟩=some (.int .i64 (z:Int))):=fun V hV=>⟨(hV.cell (p:=⟨A,j,none⟩) I).trans (r j v D),(hV.cell (p:=⟨A,k,none⟩) I).trans (r k z U)⟩;have H:Hid (∀V:World,Below w.heap.size w V→∀c u,c<10→(opvCells a)[c]?=some u→V.cell? ⟨t,v*10+c,none⟩=some u):=fun V hV c u hc hu=>(hV.cell (p:=⟨t,v*10+c,none⟩) K).trans (J c u hc hu);have G:Hid (∀V:World,Below w.heap.size w V→∀c u,c<10→(opvCells b)[c]?=some u→V.cell? ⟨t,z*10+c,none⟩=some u):=fun V hV c u hc hu=>(hV.cell (p:=⟨t,z*10+c,none⟩) K).trans (M c u hc hu);obtain⟨x1,_⟩:=q.out wr l.out;obtain⟨q0,q1,q2,q3,q4,q5,q6,q7,q8,q9⟩:=zKV (H.out wr l.out);obtain⟨d,ah,F,y⟩:∃d,wr.alloc (.cells #[.int .i64 a.id,.int .i64 a.cl,.string ⟨a.name.toArray⟩,.string ⟨a.key.toArray⟩,.int .i64 a.arg,.int .i64 a.exp,.int .i64 a.call,.int .i64 a.ret,.int .i64 a.vk,.int .i64 a.vn] 27)=d∧Below wr.heap.size wr d∧d.heap[wr.heap.size]?=some (.cells #[.int .i64 a.id,.int .i64 a.cl,.string ⟨a.name.toArray⟩,.string ⟨a.key.toArray⟩,.int .i64 a.arg,.int .i64 a.exp,.int .i64 a.call,.int .i64 a.ret,.int .i64 a.vk,.int .i64 a.vn] 27 (0,0)):=⟨_,rfl,zA _ _,ziF _ _ _ rfl⟩;have o:Hid (Below w.heap.size w d):=l.out.trans (F.mono l.out.size);obtain⟨_,x2⟩:=q.out d o.out;obtain⟨p0,p1,p2,p3,p4,p5,p6,p7,p8,p9⟩:=zKV (G.out d o.out);obtain⟨n,al,s,L⟩:∃n,d.alloc (.cells #[.int .i64 b.id,.int .i64 b.cl,.string ⟨b.name.toArray⟩,.string ⟨b.key.toArray⟩,.int .i64 b.arg,.int .i64 b.exp,.int .i64 b.call,.int .i64 b.ret,.int .i64 b.vk,.int .i64 b.vn] 27)=n∧Below d.heap.size d n∧n.heap[d.heap.size]?=some (.cells #[.int .i64 b.id,.int .i64 b.cl,.string ⟨b.name.toArray⟩,.string ⟨b.key.toArray⟩,.int .i64 b.arg,.int .i64 b.exp,.int .i64 b.call,.int .i64 b.ret,.int .i64 b.vk,.int .i64 b.vn] 27 (0,0)):=⟨_,rfl,zA _ _,ziF _ _ _ rfl⟩;have E:Hid (Below w.heap.size w n):=o.out.trans (s.mono o.out.size);have y7:n.cell? ⟨wr.heap.size,7,none⟩=some (.int .i64 a.ret):=zBk ((s.block _ (zBq y)).trans y) 7;have y6:n.cell? ⟨d.heap.size,6,none⟩=some (.int .i64 b.call):=zBk L 6;clear y L F s J M r q H G;by_cases d1:0<a.ret
     ·have d2:¬a.ret<b.call:=fun h=>x ⟨d1,h⟩;have aa:decide (0<a.ret)=true:=(by simpa using d1);have am:decide (a.ret<b.call)=false:=(by simpa using d2);clear x;go_wp2_with fail;go_roundw
      case rel=>exact⟨k+1,by go_num,by omega,E⟩
      case measure=>simp[intOf];omega
     ·have aa:decide (0<a.ret)=false:=(by simpa using d1);clear x d1;go_wp2_with fail;go_roundw
      case rel=>exact⟨k+1,by go_num,by omega,E⟩
      case measure=>simp[intOf];omega
    ·obtain rfl:k=j:=(by omega);have C:¬(k:Int)<(k:Int):=(by omega);go_wp2_with fail;go_roundw
     case rel=>exact⟨k+1,by go_num,by omega,l⟩
     case measure=>simp[intOf];omega
  ·have N:¬(j:Int)<(Q.length:Int):=(by omega);go_wp2_with fail;go_ret;exact⟨rfl,l.out⟩
def zbm (part:List Nat)(P:List OpV)(x:Nat)(c:Cf):Option Cf:=(part.idxOf? x).bind (fun k=>zsj P c k)
def zdl (part:List Nat)(P:List OpV)(c0:Cf)(l:List Nat):Option Cf:=l.foldl (fun o x=>o.bind (zbm part P x)) (some c0)
theorem zDH (part:List Nat)(P:List OpV)(c0:Cf)(l:List Nat)(x:Nat):zdl part P c0 (l++[x])=(zdl part P c0 l).bind (zbm part P x):=by simp[zdl]
theorem zI2 (part:List Nat)(P:List OpV)(l:List Nat):l.foldl (fun o x=>o.bind (zbm part P x)) none=none:=by
 induction l with
 |nil=>rfl
 |cons x r ih=>exact ih
theorem zYm {part:List Nat}{P:List OpV}{c0 a:Cf}{l:List Nat}(h:zdl part P c0 l=some a)(i:Nat):∃c,zdl part P c0 (l.take i)=some c:=by
 cases e:zdl part P c0 (l.take i)with
 |some c=>exact⟨c,rfl⟩
 |none=>
   rw[←List.take_append_drop i l]at h;unfold zdl at h e;rw[List.foldl_append,e,zI2]at h;cases h
theorem zOw {part:List Nat}{x k:Nat}(h:part.idxOf? x=some k):k<part.length:=by
 have:=List.idxOf?_eq_some_iff.1 h;exact this.1
theorem zPe {part:List Nat}{P:List OpV}(b:part.length=P.length){c0:Cf}(n:Nat):∀(l:List Nat),l.length=n→∀c,zdl part P c0 l=some c→RR P c0 c:=by
 induction n with
 |zero=>intro l a c h;rw[List.length_eq_zero_iff.1 a]at h;injection h with h;subst h;exact .start
 |succ n ih=>
   intro l a c h;rcases List.eq_nil_or_concat l with rfl|⟨r,x,rfl⟩
   ·simp at a
   rw[List.concat_eq_append]at a h;rw[zDH]at h;cases e:zdl part P c0 r with
   |none=>rw[e]at h;cases h
   |some d=>
     rw[e]at h;unfold zbm at h;cases e2:part.idxOf? x with
     |none=>rw[e2]at h;cases h
     |some k=>
       rw[e2]at h;exact .step (ih r (by simpa using a) d e) k (by rw[←b];exact zOw e2) h
theorem zcq (a:Array Value)(W:World)(b:Nat)(d e x:Value)(h:a[8]?.getD undef=.pointer (some ⟨b,0,none⟩))(i:a[9]?.getD undef=x)(g:W.heap[b]?=some (.cells #[d,e] 160 (0,0))):
 (results Tryz.f79 a).run prog W=.ok (.tuple #[.agg #[d,e],x]) W:=by
 have c0:W.cell? ⟨b,0,none⟩=some d:=by rw[zBk g];rfl
 have c1:W.cell? ⟨b,1,none⟩=some e:=by rw[zBk g];rfl
 simp[results,results79,go_sem,h,i,c0,c1]
theorem zi5 (m:List UInt8)(hm:five m)(oa X ra:Option Addr)(oc pc rc:Nat)(y P:List OpV)(part a:List Nat)(w:World)(W:OAt w oa y)(F:IAt w X part)(hr:IAt w ra a)(U:zrE y part P)(hl:P.length≤1000)(am:y.length≤1000)(aw:a.length≤1000)(aa:∀o∈P,okO o)(cE:Cf)(hE:zdl part P (cf0 m P) a=some cE):
 Calls prog 79 #[.string ⟨m.toArray⟩,.slice oa y.length oc,.slice X part.length pc,.slice ra a.length rc] w fun e w'=>e=.returned (.tuple #[cAg cE,.bool true])∧Below w.heap.size w w':=by
 have ah:Hid _:=U.1;have ak:=fun w=>zpZ m hm w;have K:=fun x w F=>zVC X pc part x w F (by rw[U.1];exact hl);have H:=fun c k w W F hc hk hst=>zvs m oa X oc pc y P part c k w W F U hc hk hl am hst aa;rw[U.1]at H K⊢;obtain⟨u,av,Y,ae⟩:∃u,w.alloc (.cells #[.string ⟨#[]⟩,.string ⟨#[]⟩] 160)=u∧Below w.heap.size w u∧u.heap[w.heap.size]?=some (.cells #[.string ⟨#[]⟩,.string ⟨#[]⟩] 160 (0,0)):=⟨_,rfl,zA _ _,ziF _ _ _ rfl⟩;obtain⟨l,ay,aj,ad⟩:∃l,u.alloc (.cells #[.string ⟨#[]⟩,.string ⟨(zKM m).toArray⟩] 160)=l∧Below u.heap.size u l∧l.heap[u.heap.size]?=some (.cells #[.string ⟨#[]⟩,.string ⟨(zKM m).toArray⟩] 160 (0,0)):=⟨_,rfl,zA _ _,ziF _ _ _ rfl⟩;have n:Hid _:=(⟨Y,ae,W,F,hr,aj,ad⟩:_∧_∧_∧_∧_∧_∧_);clear Y ae W F hr aj ad;unfold cAg at*;go_enter func79,ntmps79;go_wp2_with fail;refine(ak _).mono ?_;rintro e b ⟨rfl,rfl⟩;go_wp2_with fail;go_loopw [11] (fun i wr=>∃(j:Nat),i=.int .i64 (j:Int)∧j≤P.length∧Hid (wr.heap[b.heap.size]?=some (.cells #[.string ⟨(zYN j).toArray⟩,.string ⟨(zKM m).toArray⟩] 160 (0,0)))∧Hid (Kept [b.heap.size] l wr)) (fun i _=>P.length-(intOf i).toNat)
 case atStart=>exact⟨0,rfl,by omega,n.out.2.2.2.2.2.2,Kept.refl _ _⟩
 case round=>
  obtain⟨j,rfl,hj,q,v⟩:=hrel;have ax:(zYN j).length=j:=by simp[zYN]
  by_cases hin:j<P.length
  ·have C:(j:Int)<(P.length:Int):=(by omega);have ar:IntKind.i64.wrap ((j:Int)+1)=(j:Int)+1:=(by go_arith);have c0:wr.cell? ⟨b.heap.size,0,none⟩=some (.string ⟨(zYN j).toArray⟩):=zBk q.out 0;have z0:=zBn q.out 0;have hz:=zFG j;go_wp2_with fail;go_roundw
   case rel=>exact⟨j+1,by go_num,by omega,by show _=_;rw[zFg q.out 0 _];rfl,v.out.setCell (p:=⟨b.heap.size,0,none⟩) (Or.inl (by simp)) _⟩
   case measure=>simp[intOf];omega
  ·obtain rfl:j=P.length:=(by omega);have C:¬(P.length:Int)<(P.length:Int):=(by omega);have an:w.heap.size<b.heap.size:=zBq n.out.2.1;have HW:Hid (∀V:World,Kept [b.heap.size] l V→Below w.heap.size w V):=fun V hV=>by
    have g:Below w.heap.size w l:=n.out.1.trans (n.out.2.2.2.2.2.1.mono n.out.1.size);exact g.trans (hV.below g.size (by simp;omega))
   have al:Hid (∀V:World,Kept [b.heap.size] l V→V.heap[w.heap.size]?=some (.cells #[.string ⟨#[]⟩,.string ⟨#[]⟩] 160 (0,0))):=fun V hV=>by
    have g:=(n.out.2.2.2.2.2.1.block _ an).trans n.out.2.1;exact(hV.block _ (zBq g) (by simp;omega)).trans g
   go_wp2_with fail;go_loopw [12] (fun i wx=>∃(j:Nat) (c:Cf),i=.int .i64 (j:Int)∧j≤a.length∧Hid (wx.heap[b.heap.size]?=some (.cells #[.string ⟨c.1.toArray⟩,.string ⟨c.2.toArray⟩] 160 (0,0)))∧Hid (zdl part P (cf0 m P) (a.take j)=some c)∧Hid (Kept [b.heap.size] l wx)) (fun i _=>a.length-(intOf i).toNat)
   case atStart=>exact⟨0,cf0 m P,rfl,by omega,q,rfl,v⟩
   case round=>
    clear q v;obtain⟨j,c,rfl,hj,q,HA,v⟩:=hrel;by_cases hin:j<a.length
    ·have C:(j:Int)<(a.length:Int):=(by omega);have ar:IntKind.i64.wrap ((j:Int)+1)=(j:Int)+1:=(by go_arith);obtain⟨x,hx⟩:∃x,a[j]?=some x:=⟨_,zC hin⟩;obtain⟨gr,rfl,ao,af⟩:=n.out.2.2.2.2.1 (by rintro rfl;simp at hx);have t:=HW.out wr v.out;have xj:wr.cell? ⟨gr,j,none⟩=some (.int .i64 (x:Int)):=(t.cell (p:=⟨gr,j,none⟩) ao).trans (af j x hx);obtain⟨c',N⟩:=zYm hE (j+1);have ht:a.take (j+1)=a.take j++[x]:=(by rw[List.take_add_one,hx];rfl);have h:=N;rw[ht,zDH,HA.out]at h;obtain⟨k,Q,ab⟩:∃k,part.idxOf? x=some k∧zsj P c k=some c':=by
      unfold zbm at h;cases e:part.idxOf? x with
      |none=>rw[e]at h;cases h
      |some k=>rw[e]at h;exact⟨k,rfl,h⟩
     have aq:k<P.length:=(by rw[←ah.out];exact zOw Q);have M:okC P c:=(zPe ah.out _ _ rfl c HA.out).ok aa (z7m m P);have L:=K x wr (n.out.2.2.2.1.below t);rw[show z04 part x=(k:Int) by unfold z04;rw[Q]]at L;have az:¬(k:Int)<0:=(by omega);have HN:Hid _:=(⟨N,ab⟩:_∧_);clear N h ht Q ab af;go_wp2_with fail;refine L.mono ?_;rintro e B ⟨rfl,J⟩;have G:Kept [b.heap.size] l B:=v.out.trans (Kept.of_below (S:=[b.heap.size]) J);have D:=(J.block _ (zBq q.out)).trans q.out;have c0:B.cell? ⟨b.heap.size,0,none⟩=some (.string ⟨c.1.toArray⟩):=zBk D 0;have c1:B.cell? ⟨b.heap.size,1,none⟩=some (.string ⟨c.2.toArray⟩):=zBk D 1;have z:=HW.out B G;have ai:=H c k B (n.out.2.2.1.below z) (n.out.2.2.2.1.below z) M.1 aq (M.few hl).2;have H3:Hid _:=(⟨G,D⟩:_∧_);clear G D z J L t xj;go_wp2_with fail;refine ai.mono ?_;rintro e E ⟨R,O⟩;obtain rfl:e=.returned (.tuple #[.agg #[.string ⟨c'.1.toArray⟩,.string ⟨c'.2.toArray⟩],.bool true]):=by
      rcases O with ⟨d,g,h2⟩|⟨g,_⟩
      ·rw[HN.out.2]at g;injection g with g;subst g;exact h2
      ·rw[HN.out.2]at g;cases g
     obtain⟨r,aA,Z,I⟩:∃r,E.alloc (.cells #[.string ⟨c'.1.toArray⟩,.string ⟨c'.2.toArray⟩] 160)=r∧Below E.heap.size E r∧r.heap[E.heap.size]?=some (.cells #[.string ⟨c'.1.toArray⟩,.string ⟨c'.2.toArray⟩] 160 (0,0)):=⟨_,rfl,zA _ _,ziF _ _ _ rfl⟩;have A:Below B.heap.size B r:=R.trans (Z.mono R.size);have ag:Kept [b.heap.size] l r:=H3.out.1.trans (Kept.of_below (S:=[b.heap.size]) A);have s:=(A.block _ (zBq H3.out.2)).trans H3.out.2;have d0:r.cell? ⟨E.heap.size,0,none⟩=some (.string ⟨c'.1.toArray⟩):=zBk I 0;have d1:r.cell? ⟨E.heap.size,1,none⟩=some (.string ⟨c'.2.toArray⟩):=zBk I 1;have e0:r.cell? ⟨b.heap.size,0,none⟩=some (.string ⟨c.1.toArray⟩):=zBk s 0;have e1:r.cell? ⟨b.heap.size,1,none⟩=some (.string ⟨c.2.toArray⟩):=zBk s 1;have z0:=zBn s 0;have z1:=zBn s 1;have H5:Hid _:=(⟨ag,s⟩:_∧_);clear R O Z I A ag s ai c0 c1;go_wp2_with fail;go_roundw
     case rel=>exact⟨j+1,c',by go_num,by omega,cset H5.out.2 _ _,HN.out.1,(H5.out.1.setCell (p:=⟨b.heap.size,0,none⟩) (Or.inl (by simp)) _).setCell (p:=⟨b.heap.size,1,none⟩) (Or.inl (by simp)) _⟩
     case measure=>simp[intOf];omega
    ·obtain rfl:j=a.length:=(by omega);have C:¬(a.length:Int)<(a.length:Int):=(by omega);obtain rfl:c=cE:=by
      have:=HA.out;rw[List.take_length,hE]at this;injection this with this;exact this.symm
     have hR:=al.out wr v.out;have c0:wr.cell? ⟨b.heap.size,0,none⟩=some (.string ⟨c.1.toArray⟩):=zBk q.out 0;have c1:wr.cell? ⟨b.heap.size,1,none⟩=some (.string ⟨c.2.toArray⟩):=zBk q.out 1;have r0:wr.cell? ⟨w.heap.size,0,none⟩=some (.string ⟨#[]⟩):=zBk hR 0;have r1:wr.cell? ⟨w.heap.size,1,none⟩=some (.string ⟨#[]⟩):=zBk hR 1;have z0:=zBn hR 0;have z1:=zBn hR 1;have au:Hid _:=hR;clear hR;go_wp2_with fail;have f1:=cset au.out (.string ⟨c.1.toArray⟩) (.string ⟨c.2.toArray⟩);have t:=HW.out wr v.out;exact bodyPost_ret (zcq _ _ w.heap.size _ _ _ (by simp) rfl f1) rfl ⟨rfl,(t.setCell (p:=⟨w.heap.size,0,none⟩) zH _).setCell (p:=⟨w.heap.size,1,none⟩) zH _⟩
open srch (vAg opAg tI OAt zOu idsT)
theorem zMo (a b:List Nat):∀n:Int,zlt n (a++b)=(zlt n a).bind (fun x=>zlt x b):=by
 induction a with
 |nil=>intro n;rfl
 |cons c t ih=>
   intro n;simp only [List.cons_append,zlt];split
   ·rfl
   ·split
    ·rfl
    ·exact ih _
theorem zDc (m:Nat):Lib.decDigits m=if m<10 then [UInt8.ofNat (48+m)]else Lib.decDigits (m/10)++[UInt8.ofNat (48+m%10)]:=by
 rw[Lib.decDigits];split<;>rfl
theorem zeI (a b:List UInt8):nats (a++b)=nats a++nats b:=by simp[nats]
theorem zNL (z:Nat)(h:z<10):nats [UInt8.ofNat (48+z)]=[48+z]:=by unfold nats;simp;omega
theorem zzbT (m:Nat):m≤9223372036854775808→zlt 0 (nats (Lib.decDigits m))=some (-(m:Int)):=by
 induction m using Nat.strongRecOn with
 |ind m ih=>
   intro a;rw[zDc];by_cases h:m<10
   ·rw[if_pos h,zNL m h];simp only [zlt];rw[if_neg (by omega),if_neg (by
     have e:(-9223372036854775808+(((48+m:Nat):Int)-48)).tdiv 10= -((9223372036854775808-(m:Int))/10):=by
      rw[show -9223372036854775808+(((48+m:Nat):Int)-48)= -(9223372036854775808-(m:Int)) by omega,Int.neg_tdiv,Int.tdiv_eq_ediv_of_nonneg (by omega)]
     rw[e];omega)]
    congr 1;omega
   ·rw[if_neg h,zeI,zMo,ih (m/10) (by omega) (by omega),zNL _ (Nat.mod_lt _ (by omega))];simp only [Option.bind_some,zlt];rw[if_neg (by omega),if_neg (by
     have e:(-9223372036854775808+(((48+m%10:Nat):Int)-48)).tdiv 10= -((9223372036854775808-((m%10:Nat):Int))/10):=by
      rw[show -9223372036854775808+(((48+m%10:Nat):Int)-48)= -(9223372036854775808-((m%10:Nat):Int)) by omega,Int.neg_tdiv,Int.tdiv_eq_ediv_of_nonneg (by omega)]
     rw[e];omega)]
    congr 1;omega
theorem zot (m:Nat):Lib.decDigits m≠[]∧(m≠0→(nats (Lib.decDigits m)).headD 0≠48)∧(nats (Lib.decDigits m)).headD 0≠45∧∀c∈Lib.decDigits m,c≠44:=by
 induction m using Nat.strongRecOn with
 |ind m ih=>
   rw[zDc];by_cases h:m<10
   ·rw[if_pos h,zNL m h];refine⟨by simp,fun h0=>by show 48+m≠48;omega,by show 48+m≠45;omega,fun c hc e=>?_⟩;simp at hc;subst hc;have:=congrArg UInt8.toNat e;simp at this;omega
   ·rw[if_neg h];obtain⟨g,i,b,j⟩:=ih (m/10) (by omega);have a:∀d,(nats (Lib.decDigits (m/10)++[UInt8.ofNat (48+m%10)])).headD d=(nats (Lib.decDigits (m/10))).headD d:=by
     intro d;rw[zeI];cases e:nats (Lib.decDigits (m/10))with
     |nil=>exact absurd (by simpa [nats]using e) g
     |cons x t=>rfl
    refine⟨by simp,fun h0=>by rw[a];exact i (by omega),by rw[a];exact b,fun c hc e=>?_⟩;rcases List.mem_append.1 hc with hc|hc
    ·exact j c hc e
    ·simp at hc;subst hc;have:=congrArg UInt8.toNat e;simp at this;omega
theorem zTn (l:List UInt8):(nats l).length=l.length:=by simp[nats]
theorem zCf (m:Nat)(b:m≤9223372036854775808):¬((nats (Lib.decDigits m)).length<1∨19<(nats (Lib.decDigits m)).length∨(1<(nats (Lib.decDigits m)).length∧(nats (Lib.decDigits m)).headD 0=48)):=by
 obtain⟨a,d,i,_⟩:=zot m;have g:=z8n m b;rw[zTn];rintro(h|h|⟨h,e⟩)
 ·have:(Lib.decDigits m).length≠0:=by simpa using a
  omega
 ·omega
 ·by_cases h0:m=0
  ·subst h0;rw[zDc]at h;simp at h
  ·exact d h0 e
theorem zxM (m:Nat)(a:m≤9223372036854775808):z8T true (nats (Lib.decDigits m))=(-(m:Int),true):=by
 unfold z8T;rw[if_neg (zCf m a),zzbT m a];rfl
theorem z4k (m:Nat)(a:m<9223372036854775808):z8T false (nats (Lib.decDigits m))=((m:Int),true):=by
 unfold z8T;rw[if_neg (zCf m (by omega)),zzbT m (by omega)];simp only [Bool.false_eq_true,if_false];rw[if_neg (by omega),decide_eq_true (by omega),Int.neg_neg]
theorem zmn (n:Int)(d: -9223372036854775808≤n)(b:n≤9223372036854775807):z7y (Lib.itoa n)=(n,true):=by
 have a:zyu (nats (Lib.itoa n))=(n,true):=by
  unfold Lib.itoa;by_cases hn:n<0
  ·rw[if_pos hn];have e:nats (45::Lib.decDigits n.natAbs)=45::nats (Lib.decDigits n.natAbs):=rfl;rw[e];unfold zyu;rw[if_pos (show(45::nats (Lib.decDigits n.natAbs)).headD 0=45 from rfl),List.tail_cons,zxM _ (by omega),show -((n.natAbs:Nat):Int)=n by omega]
  ·rw[if_neg hn];unfold zyu;rw[if_neg (zot _).2.2.1,z4k _ (by omega),show((n.toNat:Nat):Int)=n by omega]
 unfold z7y;rw[a];simp
theorem zs4 (n:Int):Lib.itoa n≠[]∧∀c∈Lib.itoa n,c≠44:=by
 unfold Lib.itoa;split
 ·refine⟨by simp,fun c hc=>?_⟩;rcases List.mem_cons.1 hc with rfl|hc
  ·decide
  ·exact(zot _).2.2.2 c hc
 ·exact⟨(zot _).1,(zot _).2.2.2⟩
theorem zu8 (a t:List UInt8)(h:∀c∈a,c≠44):headR (a++44::t)=(a,t):=by
 induction a with
 |nil=>simp[headR]
 |cons c r ih=>rw[List.cons_append,headR,if_neg (h c (by simp)),ih (fun x hx=>h x (by simp[hx]))]
theorem zFB (o:OpV)(r:List OpV):idsT (o::r)=if r=[]then Lib.itoa o.id else Lib.itoa o.id++44::idsT r:=by
 unfold idsT Lib.join;cases r with
 |nil=>simp[List.intercalate]
 |cons p t=>rw[if_neg (by simp)];simp[List.intercalate]
theorem zA4 (o:OpV)(r:List OpV):headR (idsT (o::r))=(Lib.itoa o.id,idsT r):=by
 rw[zFB];split
 ·rename_i h;subst h;rw[zPM _ (zs4 _).2];simp[idsT,Lib.join,List.intercalate]
 ·exact zu8 _ _ (zs4 _).2
theorem zA3 (o:OpV)(r:List OpV):idsT (o::r)≠[]:=by
 rw[zFB];have:=(zs4 o.id).1;split<;>simp[this]
theorem zhq (l:List OpV):∀(h:idsT l≠[]),(idsT l).getLast h≠44:=by
 induction l with
 |nil=>intro h;exact absurd (by simp[idsT,Lib.join,List.intercalate]) h
 |cons o r ih=>
   intro h;have e:=zFB o r;by_cases hr:r=[]
   ·rw[if_pos hr]at e;have:=(zs4 o.id).2 ((idsT (o::r)).getLast h) (by rw[←e];exact List.getLast_mem h);exact this
   ·rw[if_neg hr]at e;have a:idsT r≠[]:=by cases r with
     |nil=>exact absurd rfl hr
     |cons p t=>exact zA3 p t
    have d:(idsT (o::r)).getLast h=(idsT r).getLast a:=by
     have b:(Lib.itoa o.id++44::idsT r)≠[]:=(by simp);rw[show(idsT (o::r)).getLast h=(Lib.itoa o.id++44::idsT r).getLast b from by congr 1];rw[List.getLast_append_of_ne_nil b (List.cons_ne_nil _ _),List.getLast_cons a]
    rw[d];exact ih a
theorem zXE (l:List OpV)(h:∀o∈l,-9223372036854775808≤o.id∧o.id≤9223372036854775807):(idsT l).length≤21*l.length:=by
 induction l with
 |nil=>simp[idsT,Lib.join,List.intercalate]
 |cons o r ih=>
   have a:=ih (fun x hx=>h x (by simp[hx]));have b:=zCU o.id (h o (by simp)).1 (h o (by simp)).2;rw[zFB];split<;>simp<;>omega
def wf64 (n:Int):Prop:= -9223372036854775808≤n∧n≤9223372036854775807
theorem z99 {w:World}{b g d:Nat}{l:List Nat}(h:w.ownsRow b 3 1 (.slice (some ⟨g,0,none⟩) l.length d) l.length (zea l)){i x:Nat}(e:l[i]?=some x):w.cell? ⟨g,i,none⟩=some (.int .i64 (x:Int)):=by
 have a:=h.cells (g:=g) rfl i (.int .i64 (x:Int)) (by unfold zea;rw[List.getElem?_map,e];rfl);rw[Addr.add_lit,Nat.zero_add]at a;exact a
def zpr (pl:List Nat)(w:World)(e:Ending)(w':World):Prop:=
 ∃a c,e=.returned (.tuple #[.slice a pl.length c,.bool true])∧w'.ownsRow w.heap.size 3 1 (.slice a pl.length c) pl.length (zea pl)∧Below w.heap.size w w'
theorem ids_any (oa:Option Addr)(oc:Nat)(b Q:List OpV)(d:List Nat)(w:World)(ho:OAt w oa b)(hQ:zrE b d Q)(av:d.Nodup)(aE:b.length≤1000)(aJ:Q.length≤1000)(N:∀o∈b,wf64 o.id)(ax:∀(i j:Nat) (o o':OpV),b[i]?=some o→b[j]?=some o'→o.id=o'.id→i=j):
 Calls prog 76 #[.slice oa b.length oc,.string ⟨(idsT Q).toArray⟩] w (zpr d w):=by
 go_enter func76,ntmps76;go_wp2_with fail;go_loopw [1,6] (fun s1 s6 wr=>∃(j:Nat) (a:Option Addr) (c:Nat),s1=.string ⟨(idsT (Q.drop j)).toArray⟩∧s6=.slice a j c∧j≤Q.length∧Hid (wr.ownsRow w.heap.size 3 1 (.slice a j c) j (zea (d.take j)))∧Hid (Below w.heap.size w wr)) (fun _ s6 _=>Q.length-(match s6 with|.slice _ n _=>n|_=>0))
 case atStart=>exact⟨0,none,0,rfl,rfl,by omega,World.ownsRow_nil _ _ _ _,zD⟩
 case round=>
  obtain⟨j,a,c,rfl,rfl,hj,HR,K⟩:=hrel;have F:=hQ.1;by_cases hin:j<Q.length
  ·obtain⟨o,Z⟩:∃o,Q[j]?=some o:=⟨_,zC hin⟩;obtain⟨p,V,A⟩:=hQ.2 j o Z;obtain⟨go,rfl,az,aI,aO⟩:=zRO ho A;have r:=N o (List.mem_of_getElem? A);have I:Q.drop j=o::Q.drop (j+1):=(by rw[List.drop_eq_getElem_cons hin];congr 1;exact(zB Z).2);have ah:∀x∈Q,wf64 x.id:=fun x m=>by
    obtain⟨q,hq⟩:=List.mem_iff_getElem?.1 m;obtain⟨p',_,h2⟩:=hQ.2 q x hq;exact N x (List.mem_of_getElem? h2)
   have ao:(idsT (Q.drop j)).length≤21000:=by
    have h1:=zXE (Q.drop j) (fun x m=>ah x (List.mem_of_mem_drop m));have h2:(Q.drop j).length≤1000:=(by simp;omega);omega
   have Y:=zA4 o (Q.drop (j+1));have u:=zA3 o (Q.drop (j+1));have D:=zhq (o::Q.drop (j+1)) u;rw[I]at ao⊢;have aa:=zmn o.id r.1 r.2;have an:=zCU o.id r.1 r.2;generalize idsT (o::Q.drop (j+1))=s at*;have aQ:s.isEmpty=false:=(by simpa using u);have L:0<s.length:=List.length_pos_iff.2 u;obtain⟨l,U⟩:∃l,s.length=l+1:=⟨s.length-1,by omega⟩;have aC:IntKind.i64.wrap ((s.length:Int)-1)=(l:Int):=(by rw[j64 (by omega) (by omega)];omega);have aF:(l:Int)<(s.length:Int):=(by omega);have aA:l<(⟨s.toArray⟩:ByteArray).size:=(by show l<s.toArray.size;simp;omega);have aM:((((⟨s.toArray⟩:ByteArray)[l]'aA).toNat:Int)==44)=false:=by
    have e1:(⟨s.toArray⟩:ByteArray)[l]'aA=s[l]'(by omega):=(by show s.toArray[l]'(by simp;omega)=_;simp);have e2:s.getLast u=s[l]'(by omega):=(by rw[List.getLast_eq_getElem];congr 1;omega);rw[e1];have:(s[l]'(by omega)).toNat≠44:=fun e=>D (by rw[e2];exact UInt8.toNat_inj.1 e);simp;omega
   have J:=zS3 s wr (by omega);rw[Y]at J;have H:=fun W=>zku (Lib.itoa o.id) W (by omega);rw[aa]at H;dsimp only at H J;have aL:Hid _:=U;clear U u D Y aa an L;generalize Lib.itoa o.id=sa at*;go_wp2_with fail;refine J.mono ?_;rintro e w1 ⟨rfl,G⟩;clear J;go_wp2_with fail;refine(H _).mono ?_;rintro e t ⟨rfl,P⟩;have E:Hid (Below wr.heap.size wr t):=G.trans (P.mono G.size);clear H G P;have B:Hid (Below w.heap.size w t):=K.out.trans (E.out.mono K.out.size);have C:Hid (t.ownsRow w.heap.size 3 1 (.slice a j c) j (zea (d.take j))):=zmP HR.out (Kept.of_below (S:=[]) E.out) (by simp);have O:j<d.length:=(by omega);clear K HR E;go_wp2_with fail;go_loop [11,12] (fun s11 s12=>∃(i:Nat) (z:Int),s11=.int .i64 z∧s12=.int .i64 (i:Int)∧i≤b.length∧Hid (z=if p<i then(p:Int)else -1)) (fun _ s12=>b.length-(intOf s12).toNat)
   case atStart=>exact⟨0,-1,rfl,rfl,by omega,by exact rfl⟩
   case round=>
    obtain⟨i,z,rfl,rfl,hi,HZ⟩:=hrel;by_cases hio:i<b.length
    ·have ag:(i:Int)<(b.length:Int):=(by omega);have aP:IntKind.i64.wrap ((i:Int)+1)=(i:Int)+1:=(by go_arith);obtain⟨x,m⟩:∃x,b[i]?=some x:=⟨_,zC hio⟩;obtain⟨aq,aj,_,_,M⟩:=zRO ho m;obtain rfl:go=aq:=(by injection aj with e;injection e);have x0:t.cell? ⟨go,i*10,none⟩=some (.int .i64 x.id):=(B.out.cell (p:=⟨go,i*10,none⟩) az).trans (M 0 _ (by decide) rfl);clear M;by_cases hxe:x.id=o.id
     ·have X:Hid (i=p):=ax i p x o m A hxe;have ai:(x.id==o.id)=true:=(by simpa using hxe);clear hxe;go_wp2_with fail;go_round
      case rel=>exact⟨i+1,(i:Int),rfl,by go_num,by omega,by show(i:Int)=_;rw[if_pos (by have:=X.out;omega),X.out]⟩
      case measure=>simp[intOf];omega
     ·have aK:i≠p:=fun e=>hxe (by subst e;rw[A]at m;injection m with m;rw[m]);have ai:(x.id==o.id)=false:=(by simpa using hxe);clear hxe;go_wp2_with fail;go_round
      case rel=>exact⟨i+1,z,rfl,by go_num,by omega,by
       show z=_;rw[HZ.out];by_cases h:p<i
       ·rw[if_pos h,if_pos (by omega)]
       ·rw[if_neg h,if_neg (by omega)]⟩
      case measure=>simp[intOf];omega
    ·have ag:¬(i:Int)<(b.length:Int):=(by omega);obtain rfl:z=(p:Int):=(by rw[HZ.out,if_pos (by omega)]);clear HZ;go_wp2_with fail;go_loop [13] (fun s13=>∃(i:Nat),s13=.int .i64 (i:Int)∧i≤j) (fun s13=>j-(intOf s13).toNat)
     case atStart=>exact⟨0,rfl,by omega⟩
     case round=>
      obtain⟨k,rfl,hk⟩:=hrel;by_cases hkj:k<j
      ·have ad:(k:Int)<(j:Int):=(by omega);have aN:IntKind.i64.wrap ((k:Int)+1)=(k:Int)+1:=(by go_arith);obtain⟨y,hy⟩:∃y,d[k]?=some y:=⟨_,zC (by omega)⟩;have am:y≠p:=fun e=>by
        subst e;obtain⟨ay,al⟩:=zB hy;obtain⟨O,ar⟩:=zB V;exact List.pairwise_iff_getElem.1 av k j ay O hkj (al.trans ar.symm)
       have aB:((y:Int)==(p:Int))=false:=(by rw[beq_eq_false_iff_ne];omega);obtain⟨g,rfl⟩:∃g,a=some ⟨g,0,none⟩:=by
        rcases zzD C.out with ⟨_,e⟩|⟨g,aH,e,_⟩
        ·omega
        ·injection e with e;exact⟨g,e⟩
       have ae:(d.take j).length=j:=(by rw[List.length_take];omega);have y0:t.cell? ⟨g,k,none⟩=some (.int .i64 (y:Int)):=by
        have h:=C.out.cells (g:=g) rfl k (.int .i64 (y:Int)) (by unfold zea;rw[List.getElem?_map,List.getElem?_take,if_pos (by omega),hy];rfl);rw[Addr.add_lit,Nat.zero_add]at h;exact h
       clear ae am;go_wp2_with fail;go_round
       case rel=>exact⟨k+1,by go_num,by omega⟩
       case measure=>simp[intOf];omega
      ·obtain rfl:k=j:=(by omega);have ad:¬(k:Int)<(k:Int):=(by omega);have aD:¬(p:Int)<0:=(by omega);obtain⟨a7,c7,w7,R,v,ab⟩:=zla false t w.heap.size a k c (zea (d.take k)) (p:Int) C.out (by omega) B.out.size;have af:(Builtin.append_ #[101,101] 101 #[.slice a k c,.slice (some ⟨t.heap.size,0,none⟩) 1 1]).run prog (t.alloc (.cells #[.int .i64 (p:Int)] 3))=.ok (.slice a7 (k+1) c7) w7:=R;have ht:d.take (k+1)=d.take k++[p]:=(by rw[List.take_add_one,V];rfl);rw[←zyv,←ht]at v;have au:Hid _:=v;have ak:Hid (Below w.heap.size w w7):=B.out.trans (ab.below B.out.size (fun g hg=>(C.out.lt g (by simpa using hg)).1));clear R v ab ht;go_wp2_with (at_builtin;refine zOu rfl _ _ 101 rfl _ _ _ _ rfl rfl af ?_);go_roundw
       case rel=>exact⟨k+1,a7,c7,rfl,rfl,by omega,au,ak⟩
       case measure=>simp;omega
  ·obtain rfl:j=Q.length:=(by omega);rw[List.drop_length];have aw:Hid (wr.ownsRow w.heap.size 3 1 (.slice a d.length c) d.length (zea d)):=by
    have h:=HR.out;rw[←F,List.take_length]at h;exact h
   rw[←F];rw[show idsT ([]:List OpV)=[] by simp[idsT,Lib.join,List.intercalate]];go_wp2_with fail;go_ret2;exact⟨a,c,rfl,aw.out,K.out⟩
def lone3 (m:List UInt8):Prop:=m=sReg∨m=zsK∨m=zyy
theorem lone3.five {m:List UInt8}(h:lone3 m):five m:=by
 rcases h with h|h|h
 ·exact .inl h
 ·exact .inr (.inr (.inl h))
 ·exact .inr (.inr (.inr (.inr h)))
theorem zYt (m:List UInt8)(a:lone3 m)(w:World):
 Calls prog 73 #[.string ⟨m.toArray⟩] w fun e w'=>e=.returned (.bool false)∧w'=w:=by
 rcases a with rfl|rfl|rfl
 all_goals
  simp only [sReg,zsK,zyy];go_enter func73,ntmps73;go_wp2;go_ret;exact⟨rfl,rfl⟩
theorem zsv:(prog.info? 103).map (fun i=>(i.zero,i.size,i.bytes))=some (some (.agg #[.string ⟨#[]⟩,.slice none 0 0]),2,40):=by kernel_rfl
theorem zaZ (W:World)(b:Nat)(a:Option Addr)(n c:Nat)(j:List Value)(k:List UInt8)(e:Option Addr)(i d:Nat)(h:W.ownsRow b 103 2 (.slice a n c) n j)(y:n≤3000000)(A:b≤W.heap.size):
 ∃a' c' w',(Builtin.append_ #[92,92] 92 #[.slice a n c,.slice (some ⟨W.heap.size,0,none⟩) 1 1]).run prog (W.alloc (.cells #[.string ⟨k.toArray⟩,.slice e i d] 103))=.ok (.slice a' (n+1) c') w'∧w'.ownsRow b 103 2 (.slice a' (n+1) c') (n+1) (j++[.string ⟨k.toArray⟩,.slice e i d])∧Kept (Value.slice a n c).ownBlock.toList W w':=by
 obtain⟨x,l,p,r,q⟩:=info_parts zsv;obtain⟨z,v,s,m,t,_⟩:=run_append_own (P:=prog) (W.alloc (.cells ([.string ⟨k.toArray⟩,.slice e i d]:List Value).toArray 103)) b 92 92 103 x _ 2 40 underlying92 l p r q rfl (by decide) (.slice a n c) n j (h.alloc _) ⟨W.heap.size,0,none⟩ 1 1 [.string ⟨k.toArray⟩,.slice e i d] rfl (z9R W _ _) (by intro u o;simp at o;rcases o with rfl|rfl<;>rfl) (by unfold maxLen;omega) (by omega) (by simp;omega);obtain⟨a',c',rfl⟩:=zIW m;exact⟨a',c',v,s,m,((Kept.refl _ W).alloc _).grownS t (fun g' hg'=>by rw[hg'];simp)⟩
theorem zUm (s a t:List UInt8)(b:s=a++t++[10])(B:s.length≤90000000)(w:World):
 Calls prog 39 #[.string ⟨s.toArray⟩,.string ⟨a.toArray⟩] w fun e w'=>e=.returned (.tuple #[.string ⟨t.toArray⟩,.bool true])∧Below w.heap.size w w':=by
 have g:s.length=a.length+t.length+1:=by rw[b];simp;omega
 have j:¬(s.length:Int)<(a.length:Int)+1:=by omega
 have y:decide ((s.length:Int)<(a.length:Int)+1)=false:=by simpa using j
 have x:IntKind.i64.wrap ((a.length:Int)+1)=(a.length:Int)+1:=j64 (by omega) (by omega);obtain⟨q,i⟩:∃q,s.length=q+1:=⟨a.length+t.length,by omega⟩;have o:IntKind.i64.wrap ((s.length:Int)-1)=(q:Int):=by rw[j64 (by omega) (by omega)];omega
 have z:(q:Int)<(s.length:Int):=by omega
 have k:(q:Int)≤(s.length:Int):=by omega
 have v:(a.length:Int)≤(s.length:Int):=by omega
 have r:(a.length:Int)≤(q:Int):=by omega
 have u:(⟨s.toArray⟩:ByteArray).extract 0 a.length=⟨a.toArray⟩:=by
  rw[Lib.extract_eq,b];simp
 have m:(⟨s.toArray⟩:ByteArray).extract a.length q=⟨t.toArray⟩:=by
  rw[Lib.extract_eq];have:List.take (q-a.length) (List.drop a.length s)=t:=by
   rw[b,List.append_assoc,List.drop_left];exact List.take_left' (by omega)
  rw[←this]
 have l:q<(⟨s.toArray⟩:ByteArray).size:=by show q<s.toArray.size;simp;omega
 have h:((((⟨s.toArray⟩:ByteArray)[q]'l).toNat:Int)==10)=true:=by
  have n:(⟨s.toArray⟩:ByteArray)[q]'l=s[q]'(by omega):=by show s.toArray[q]'(by simp;omega)=_;simp
  have d:s[q]?=some 10:=by rw[b,List.getElem?_append_right (by simp;omega),show q-(a++t).length=0 by simp;omega];rfl
  rw[zC (by omega)]at d;injection d with d;rw[n,d];decide
 have p:((((⟨s.toArray⟩:ByteArray)[q]'l).toNat:Int) != 10)=false:=by rw[bne,h];rfl
 have A:Hid _:=(⟨b,i,g⟩:_∧_∧_);clear b i g j;go_enter func39,ntmps39;go_wp2_with fail;go_ret2;exact⟨rfl,zD⟩
theorem zgE (s a:List UInt8)(h:s.take a.length≠a)(_hl:s.length≤90000000)(k:a.length≤90000000)(w:World):
 Calls prog 39 #[.string ⟨s.toArray⟩,.string ⟨a.toArray⟩] w fun e w'=>e=.returned (.tuple #[.string ⟨#[]⟩,.bool false])∧Below w.heap.size w w':=by
 have l:IntKind.i64.wrap ((a.length:Int)+1)=(a.length:Int)+1:=j64 (by omega) (by omega);by_cases h0:s.length<a.length+1
 ·have b:decide ((s.length:Int)<(a.length:Int)+1)=true:=by simp;omega
  clear h;go_enter func39,ntmps39;go_wp2_with fail;go_ret2;exact⟨rfl,zD⟩
 ·have b:decide ((s.length:Int)<(a.length:Int)+1)=false:=by simp;omega
  have i:(a.length:Int)≤(s.length:Int):=by omega
  have g:(⟨s.toArray⟩:ByteArray).extract 0 a.length=⟨(s.take a.length).toArray⟩:=by
   rw[Lib.extract_eq];simp
  have j:(s.take a.length==a)=false:=by simpa using h
  have d:(s.take a.length != a)=true:=by simpa using h
  generalize s.take a.length=z at*;clear h;go_enter func39,ntmps39;go_wp2_with fail;go_ret2;exact⟨rfl,zD⟩
def roomP (k:Nat):Nat:=1000000/(2*(k+1))
theorem zhE (k:Nat):roomP k≤500000:=by
 unfold roomP;have:1000000/(2*(k+1))≤1000000/2:=Nat.div_le_div_left (by omega) (by decide);omega
theorem zKP (k:Nat)(d:k≤1000)(w:World):
 Calls prog 74 #[.int .i64 (k:Int)] w fun e w'=>e=.returned (.int .i64 (roomP k:Int))∧w'=w:=by
 have a:IntKind.i64.wrap ((k:Int)+1)=(k:Int)+1:=j64 (by omega) (by omega);have h:IntKind.i64.wrap (2*((k:Int)+1))=2*((k:Int)+1):=j64 (by omega) (by omega);have g:Int.tdiv 1000000 (2*((k:Int)+1))=(roomP k:Int):=by
  rw[Int.tdiv_eq_ediv_of_nonneg (by omega)];unfold roomP;simp
 have j:(2*((k:Int)+1)==0)=false:=by rw[beq_eq_false_iff_ne];omega
 have i:=zhE k;have b:IntKind.i64.wrap (roomP k:Int)=(roomP k:Int):=j64 (by omega) (by omega);generalize roomP k=r at*;go_enter func74,ntmps74;go_wp2_with fail;go_ret;exact⟨rfl,rfl⟩
open srch (qKey z9l hexL)
theorem zTU:∀a b:Fin 16,hexL.getD a.val 0=hexL.getD b.val 0→a=b:=by decide
theorem zjY {c c':UInt8}{r k:List UInt8}(h:z9l c++r=z9l c'++k):c=c'∧r=k:=by
 have key:∀(c:UInt8),(z9l c=[92,c]∧(c.toNat=34∨c.toNat=92))∨(z9l c=[92,117,48,48,hexL.getD (c.toNat/16) 0,hexL.getD (c.toNat%16) 0]∧c.toNat<32)∨(z9l c=[c]∧c.toNat≠34∧c.toNat≠92∧¬c.toNat<32):=by
  intro c;unfold z9l;by_cases b:c.toNat=34∨c.toNat=92
  ·rw[if_pos b];exact .inl ⟨rfl,b⟩
  ·rw[if_neg b];by_cases d:c.toNat<32
   ·rw[if_pos d];exact .inr (.inl ⟨rfl,d⟩)
   ·rw[if_neg d];exact .inr (.inr ⟨rfl,by omega,by omega,d⟩)
 have a:∀c:UInt8,92=c→c.toNat=92:=fun c e=>by rw[←e];rfl
 have g:∀c:UInt8,c=117→c.toNat=117:=fun c e=>by rw[e];rfl
 rcases key c with ⟨e,b⟩|⟨e,b⟩|⟨e,b,d,t⟩<;>rcases key c' with ⟨j,i⟩|⟨j,i⟩|⟨j,i,q,s⟩<;>rw[e,j]at h<;>simp only [List.cons_append,List.nil_append,List.cons.injEq]at h
 ·exact⟨h.2.1,h.2.2⟩
 ·have:=g c h.2.1;omega
 ·have:=a c' h.1;omega
 ·have:=g c' h.2.1.symm;omega
 ·obtain⟨_,_,_,_,p,m,o⟩:=h;have n:=zTU ⟨c.toNat/16,by omega⟩ ⟨c'.toNat/16,by omega⟩ p;have l:=zTU ⟨c.toNat%16,by omega⟩ ⟨c'.toNat%16,by omega⟩ m;simp only [Fin.mk.injEq]at n l;exact⟨UInt8.toNat_inj.1 (by omega),o⟩
 ·have:=a c' h.1;omega
 ·have:=a c h.1.symm;omega
 ·have:=a c h.1.symm;omega
 ·exact h
theorem zga (c:UInt8)(r y:List UInt8):z9l c++r≠34::y:=by
 intro h;unfold z9l at h;split at h
 ·simp at h
 ·rename_i h1;split at h
  ·simp at h
  ·simp at h;exact h1 (.inl (by rw[h.1];rfl))
theorem zSOC {k k' x y:List UInt8}(h:qKey k++x=qKey k'++y):k=k'∧x=y:=by
 have key:∀k k':List UInt8,k.flatMap z9l++34::x=k'.flatMap z9l++34::y→k=k'∧x=y:=by
  intro k
  induction k with
  |nil=>
    intro k' h;cases k' with
    |nil=>simpa using h
    |cons c t=>
      rw[List.flatMap_cons,List.append_assoc]at h;exact absurd h.symm (zga _ _ _)
  |cons c t ih=>
    intro k' h;cases k' with
    |nil=>
      rw[List.flatMap_cons,List.append_assoc]at h;exact absurd h (zga _ _ _)
    |cons c' t'=>
      rw[List.flatMap_cons,List.flatMap_cons,List.append_assoc,List.append_assoc]at h;obtain⟨rfl,b⟩:=zjY h;obtain⟨rfl,a⟩:=ih t' b;exact⟨rfl,a⟩
 refine key k k' ?_;unfold qKey at h;simp only [List.cons_append,List.cons.injEq,true_and,List.append_assoc,List.nil_append]at h;exact h
theorem zwj {part:List Nat}(b:part.Nodup){k:Nat}(a:k<part.length):part.idxOf? part[k]=some k:=by
 unfold List.idxOf?;rw[List.findIdx?_eq_some_iff_getElem];refine⟨a,by simp,fun j hj=>?_⟩;simp only [beq_iff_eq];intro e;have:=List.pairwise_iff_getElem.1 b j k (by omega) a hj;exact this e
theorem z0W {part:List Nat}(l:part.Nodup){P:List OpV}(g:part.length=P.length)(c0:Cf)(a:List Nat)(b:∀k∈a,k<P.length):
 zdl part P c0 (a.map (fun k=>part[k]?.getD 0))=zdl (List.range P.length) P c0 a:=by
 unfold zdl;rw[List.foldl_map];have key:∀(a:List Nat) (o:Option Cf),(∀k∈a,k<P.length)→a.foldl (fun o k=>o.bind (zbm part P (part[k]?.getD 0))) o=a.foldl (fun o x=>o.bind (zbm (List.range P.length) P x)) o:=by
  intro a
  induction a with
  |nil=>intro o _;rfl
  |cons k r ih=>
    intro o h;rw[List.foldl_cons,List.foldl_cons];have d:k<part.length:=(by rw[g];exact h k (by simp));have i:part.idxOf? (part[k]?.getD 0)=some k:=by
     rw[zC d];exact zwj l d
    have j:(List.range P.length).idxOf? k=some k:=by
     have:=zwj (part:=List.range P.length) List.nodup_range (k:=k) (by simpa using h k (by simp));simpa using this
    have e:zbm part P (part[k]?.getD 0)=zbm (List.range P.length) P k:=by
     funext c;unfold zbm;rw[i,j]
    rw[e];exact ih _ (fun x hx=>h x (by simp[hx]))
 exact key a _ b
end Go.Proofs.YtoeoinpaidhmcaaGreatDoor.jd
