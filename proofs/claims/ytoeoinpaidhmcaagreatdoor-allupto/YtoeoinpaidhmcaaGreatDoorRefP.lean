/- Several texts in one. -/
import Derived.Test.YtoeoinpaidhmcaaGreatDoorPureX
import Derived.OneCell
set_option maxHeartbeats 4000000
set_option maxRecDepth 100000
namespace Go.Proofs.YtoeoinpaidhmcaaGreatDoor
open Tryz
open Go.RowKit
def zqV (m:RM):List Value:=[.string ⟨m.1.toArray⟩,.int .u8 (m.2.1:Int),.string ⟨m.2.2.1.toArray⟩,.int .i64 m.2.2.2]
def zQE (l:List RM):List Value:=l.flatMap zqV
theorem z41 (g:List RM)(i:Nat)(h:i<g.length):(zQE g)[i*4]?=some (.string ⟨(g[i]).1.toArray⟩)∧(zQE g)[i*4+1]?=some (.int .u8 ((g[i]).2.1:Int))∧(zQE g)[i*4+2]?=some (.string ⟨(g[i]).2.2.1.toArray⟩)∧(zQE g)[i*4+3]?=some (.int .i64 (g[i]).2.2.2):=by
 induction g generalizing i with
 |nil=>simp at h
 |cons m r ih=>
   have e:zQE (m::r)=zqV m++zQE r:=(by simp[zQE]);have j:(zqV m).length=4:=rfl;rw[e];cases i with
   |zero=>simp[zqV]
   |succ i=>
     obtain⟨a,b,c,d⟩:=ih i (by simpa using h);refine⟨?_,?_,?_,?_⟩
     ·rw[List.getElem?_append_right (by omega),j,show(i+1)*4-4=i*4 by omega,a];simp
     ·rw[List.getElem?_append_right (by omega),j,show(i+1)*4+1-4=i*4+1 by omega,b];simp
     ·rw[List.getElem?_append_right (by omega),j,show(i+1)*4+2-4=i*4+2 by omega,c];simp
     ·rw[List.getElem?_append_right (by omega),j,show(i+1)*4+3-4=i*4+3 by omega,d];simp
def RRow (w:World)(o:Option Addr)(ms:List RM):Prop:=
 ms≠[]→∃g,o=some ⟨g,0,none⟩∧g<w.heap.size∧∀j u,(zQE ms)[j]?=some u→w.cell? ⟨g,j,none⟩=some u
theorem RRow.below {w w':World}{o:Option Addr}{a:List RM}(h:RRow w o a)(k:Below w.heap.size w w'):RRow w' o a:=by
 intro d;obtain⟨g,e,b,i⟩:=h d;exact⟨g,e,zI b k.size,fun j u hj=>(k.cell (p:=⟨g,j,none⟩) b).trans (i j u hj)⟩
def memR (nm:List UInt8):RM→Nat→List RM→RM×Nat
 |m,n,[]=>(m,n)
 |m,n,x::r=>if x.1=nm then memR nm x (n+1) r else memR nm m n r
def zB6:RM:=([],0,[],0)
def zF5 (m:RM):Value:=.agg #[.string ⟨m.1.toArray⟩,.int .u8 (m.2.1:Int),.string ⟨m.2.2.1.toArray⟩,.int .i64 m.2.2.2]
def rmBlk (w:World)(b:Nat)(m:RM):Prop:=w.heap[b]?=some (.cells #[.string ⟨m.1.toArray⟩,.int .u8 (m.2.1:Int),.string ⟨m.2.2.1.toArray⟩,.int .i64 m.2.2.2] 74 (0,0))
theorem rmBlk.set {w:World}{b:Nat}{m:RM}(h:rmBlk w b m)(x:RM):rmBlk ((((w.setCell ⟨b,0,none⟩ (.string ⟨x.1.toArray⟩)).setCell ⟨b,1,none⟩ (.int .u8 (x.2.1:Int))).setCell ⟨b,2,none⟩ (.string ⟨x.2.2.1.toArray⟩)).setCell ⟨b,3,none⟩ (.int .i64 x.2.2.2)) b x:=by
 unfold rmBlk at*;rw[zFg (zFg (zFg (zFg h 0 _) 1 _) 2 _) 3 _];simp
theorem rmBlk.other {w:World}{b c:Nat}{m:RM}(h:rmBlk w b m)(a:b≠c)(x y z u:Value):rmBlk ((((w.setCell ⟨c,0,none⟩ x).setCell ⟨c,1,none⟩ y).setCell ⟨c,2,none⟩ z).setCell ⟨c,3,none⟩ u) b m:=by
 unfold rmBlk at*;rw[zRA a,zRA a,zRA a,zRA a];exact h
theorem zAO (o:Option Addr)(E:Nat)(a:List RM)(b:List UInt8)(w:World)(A:RRow w o a)(hl:a.length≤2000000):
 Calls prog 25 #[.slice o a.length E,.string ⟨b.toArray⟩] w fun e w'=>Below w.heap.size w w'∧e=.returned (.tuple #[zF5 (memR b zB6 0 a).1,.int .i64 ((memR b zB6 0 a).2:Int)]):=by
 go_enter func25,ntmps25;go_wp2;go_loopw [7,8] (fun nv i wr=>∃(j n:Nat) (m:RM),nv=.int .i64 (n:Int)∧i=.int .i64 (j:Int)∧j≤a.length∧n≤j∧memR b m n (a.drop j)=memR b zB6 0 a∧rmBlk wr (w.heap.size+1) m∧rmBlk wr w.heap.size zB6∧Below w.heap.size w wr) (fun _ i _=>a.length-(intOf i).toNat)
 case atStart=>
  refine⟨0,0,zB6,rfl,rfl,by omega,by omega,rfl,?_,?_,(zA _ _).alloc (by simp) _⟩
  ·exact ziF _ _ _ (by simp)
  ·exact(zD1 _ _ _ (by simp)).trans (ziF _ _ _ rfl)
 case round=>
  obtain⟨j,n,m,rfl,rfl,hj,Y,D,k,l,h⟩:=hrel;have hR:Hid (memR b m n (a.drop j)=memR b zB6 0 a):=D;clear D;have W:=zBq k;have m0:wr.cell? ⟨w.heap.size+1,0,none⟩=some (.string ⟨m.1.toArray⟩):=by rw[zBk k];rfl
  have m1:wr.cell? ⟨w.heap.size+1,1,none⟩=some (.int .u8 (m.2.1:Int)):=by rw[zBk k];rfl
  have m2:wr.cell? ⟨w.heap.size+1,2,none⟩=some (.string ⟨m.2.2.1.toArray⟩):=by rw[zBk k];rfl
  have m3:wr.cell? ⟨w.heap.size+1,3,none⟩=some (.int .i64 m.2.2.2):=by rw[zBk k];rfl
  have Q:wr.frozen? ⟨w.heap.size+1,0,none⟩=false:=zBn k 0;have R:wr.frozen? ⟨w.heap.size+1,1,none⟩=false:=zBn k 1;have S:wr.frozen? ⟨w.heap.size+1,2,none⟩=false:=zBn k 2;have U:wr.frozen? ⟨w.heap.size+1,3,none⟩=false:=zBn k 3;by_cases hlt:j<a.length
  ·obtain⟨g,rfl,s,d⟩:=A (fun e=>by rw[e]at hlt;simp at hlt);obtain⟨c0,c1,C,F⟩:=z41 a j hlt;have I:wr.cell? ⟨g,j*4,none⟩=_:=(h.cell (p:=⟨g,j*4,none⟩) s).trans (d _ _ c0);have N:wr.cell? ⟨g,j*4+1,none⟩=_:=(h.cell (p:=⟨g,j*4+1,none⟩) s).trans (d _ _ c1);have K:wr.cell? ⟨g,j*4+2,none⟩=_:=(h.cell (p:=⟨g,j*4+2,none⟩) s).trans (d _ _ C);have O:wr.cell? ⟨g,j*4+3,none⟩=_:=(h.cell (p:=⟨g,j*4+3,none⟩) s).trans (d _ _ F);have t:Hid (memR b m n (a[j]::a.drop (j+1))=memR b zB6 0 a):=(by rw[←hR.out,←List.drop_eq_getElem_cons hlt];exact rfl);clear hR c0 c1 C F d A;generalize a[j]=x at*;obtain⟨q,z,u,y⟩:=x;simp only at I N K O;have B:(j:Int)<(a.length:Int):=(by omega);by_cases hx:q=b
   ·have J:(q==b)=true:=(by rw[hx];simp);have r:Hid (memR b (q,z,u,y) (n+1) (a.drop (j+1))=memR b zB6 0 a):=(by rw[←t.out,memR,if_pos hx];exact rfl);clear t hx;go_wp2;go_roundw
    case rel=>exact⟨j+1,n+1,(q,z,u,y),by go_num,by go_num,by omega,by omega,r.out,k.set (q,z,u,y),l.other (by omega) _ _ _ _,(((h.setCell (by simp) _).setCell (by simp) _).setCell (by simp) _).setCell (by simp) _⟩
    case measure=>simp[intOf];omega
   ·have J:(q==b)=false:=(by simpa using hx);have r:Hid (memR b m n (a.drop (j+1))=memR b zB6 0 a):=(by rw[←t.out,memR,if_neg hx];exact rfl);clear t hx;go_wp2;go_roundw
    case rel=>exact⟨j+1,n,m,rfl,by go_num,by omega,by omega,r.out,k,l,h⟩
    case measure=>simp[intOf];omega
  ·have r:Hid (memR b zB6 0 a=(m,n)):=(by rw[←hR.out,List.drop_eq_nil_of_le (by omega)];exact rfl);have B:¬(j:Int)<(a.length:Int):=(by omega);clear hR;have H:wr.cell? ⟨w.heap.size,0,none⟩=some (.string ⟨#[]⟩):=(by rw[zBk l];rfl);have L:wr.cell? ⟨w.heap.size,1,none⟩=some (.int .u8 0):=(by rw[zBk l];rfl);have G:wr.cell? ⟨w.heap.size,2,none⟩=some (.string ⟨#[]⟩):=(by rw[zBk l];rfl);have M:wr.cell? ⟨w.heap.size,3,none⟩=some (.int .i64 0):=(by rw[zBk l];rfl);have X:wr.frozen? ⟨w.heap.size,0,none⟩=false:=zBn l 0;have P:wr.frozen? ⟨w.heap.size,1,none⟩=false:=zBn l 1;have V:wr.frozen? ⟨w.heap.size,2,none⟩=false:=zBn l 2;have Z:wr.frozen? ⟨w.heap.size,3,none⟩=false:=zBn l 3;go_wp2;refine bodyPost_ret (v:=.tuple #[zF5 m,.int .i64 (n:Int)]) (by simp[results,results25,go_sem,zF5,H,L,G,M]) rfl ⟨(((h.setCell (by simp) _).setCell (by simp) _).setCell (by simp) _).setCell (by simp) _,by rw[r.out]⟩
def fitsR (call:Bool):Nat→List RM→Nat
 |n,[]=>n
 |n,x::r=>if fitP x.1 x.2.1 call=true then fitsR call (n+1) r else fitsR call n r
def repR (ms:List RM):List RM→Bool
 | []=>false
 |x::r=>if 1<(memR x.1 zB6 0 ms).2 then true else repR ms r
theorem RRow.at {w wr:World}{o:Option Addr}{b:List RM}(h:RRow w o b)(k:Below w.heap.size w wr){j:Nat}(i:j<b.length):
 ∃g,o=some ⟨g,0,none⟩∧g<w.heap.size∧wr.cell? ⟨g,j*4,none⟩=some (.string ⟨(b[j]).1.toArray⟩)∧wr.cell? ⟨g,j*4+1,none⟩=some (.int .u8 ((b[j]).2.1:Int))∧
  wr.cell? ⟨g,j*4+2,none⟩=some (.string ⟨(b[j]).2.2.1.toArray⟩)∧wr.cell? ⟨g,j*4+3,none⟩=some (.int .i64 (b[j]).2.2.2):=by
 obtain⟨g,l,d,a⟩:=h (fun e=>by rw[e]at i;simp at i);obtain⟨c0,c1,m,n⟩:=z41 b j i;exact⟨g,l,d,(k.cell (p:=⟨g,j*4,none⟩) d).trans (a _ _ c0),(k.cell (p:=⟨g,j*4+1,none⟩) d).trans (a _ _ c1),
  (k.cell (p:=⟨g,j*4+2,none⟩) d).trans (a _ _ m),(k.cell (p:=⟨g,j*4+3,none⟩) d).trans (a _ _ n)⟩
theorem z51 (o:Option Addr)(u:Nat)(a:List RM)(call:Bool)(w:World)(q:RRow w o a)(I:a.length≤2000000)(v:∀m∈a,m.2.1<256):
 Calls prog 53 #[.slice o a.length u,.bool call] w fun e w'=>Below w.heap.size w w'∧e=.returned (.int .i64 (fitsR call 0 a:Int)):=by
 go_enter func53,ntmps53;go_wp2;go_loopw [5,6] (fun nv i wr=>∃(j n:Nat),nv=.int .i64 (n:Int)∧i=.int .i64 (j:Int)∧j≤a.length∧n≤j∧fitsR call n (a.drop j)=fitsR call 0 a∧Below w.heap.size w wr) (fun _ i _=>a.length-(intOf i).toNat)
 case atStart=>exact⟨0,0,rfl,rfl,by omega,by omega,rfl,zD⟩
 case round=>
  obtain⟨j,n,rfl,rfl,J,F,t,b⟩:=hrel;have hR:Hid (fitsR call n (a.drop j)=fitsR call 0 a):=t;clear t;by_cases hlt:j<a.length
  ·obtain⟨g,rfl,G,A,C,B,E⟩:=q.at b hlt;have k:Hid (fitsR call n (a[j]::a.drop (j+1))=fitsR call 0 a):=(by rw[←hR.out,←List.drop_eq_getElem_cons hlt];exact rfl);have p:=v a[j] (List.getElem_mem hlt);clear hR q v;generalize a[j]=x at*;obtain⟨l,y,z,D⟩:=x;simp only at A C B E p;have r:(j:Int)<(a.length:Int):=(by omega);go_wp2_with fail;refine(zNE ⟨l.toArray⟩ y ⟨z.toArray⟩ D call _ p).mono ?_;rintro e H ⟨s,rfl⟩;have d:=b.trans (s.mono b.size);rw[show(⟨l.toArray⟩:ByteArray).toList=l by rw[ByteArray.toList_eq]];cases hf:fitP l y call with
   |true=>
     have h:Hid (fitsR call (n+1) (a.drop (j+1))=fitsR call 0 a):=(by rw[←k.out,fitsR,if_pos hf];exact rfl);clear k hf;go_wp2;go_roundw
     case rel=>exact⟨j+1,n+1,by go_num,by go_num,by omega,by omega,h.out,d⟩
     case measure=>simp[intOf];omega
   |false=>
     have h:Hid (fitsR call n (a.drop (j+1))=fitsR call 0 a):=(by rw[←k.out,fitsR,if_neg (by rw[hf];simp)];exact rfl);clear k hf;go_wp2;go_roundw
     case rel=>exact⟨j+1,n,rfl,by go_num,by omega,by omega,h.out,d⟩
     case measure=>simp[intOf];omega
  ·have h:Hid (fitsR call 0 a=n):=(by rw[←hR.out,List.drop_eq_nil_of_le (by omega)];exact rfl);have r:¬(j:Int)<(a.length:Int):=(by omega);clear hR;go_wp2;go_ret;exact⟨b,by rw[h.out];rfl⟩
theorem z4Q (o:Option Addr)(l:Nat)(a:List RM)(w:World)(n:RRow w o a)(z:a.length≤2000000):
 Calls prog 24 #[.slice o a.length l] w fun e w'=>Below w.heap.size w w'∧e=.returned (.bool (repR a a)):=by
 go_enter func24,ntmps24;go_wp2;go_loopw [3] (fun i wr=>∃(j:Nat),i=.int .i64 (j:Int)∧j≤a.length∧repR a (a.drop j)=repR a a∧Below w.heap.size w wr) (fun i _=>a.length-(intOf i).toNat)
 case atStart=>exact⟨0,rfl,by omega,rfl,zD⟩
 case round=>
  obtain⟨j,rfl,J,t,d⟩:=hrel;have hR:Hid (repR a (a.drop j)=repR a a):=t;clear t;by_cases hlt:j<a.length
  ·have m:=n.below d;obtain⟨g,rfl,C,v,A,y,B⟩:=n.at d hlt;have k:Hid (repR a (a[j]::a.drop (j+1))=repR a a):=(by rw[←hR.out,←List.drop_eq_getElem_cons hlt];exact rfl);clear hR;generalize a[j]=x at*;obtain⟨s,L,D,K⟩:=x;simp only at v A y B;have p:(j:Int)<(a.length:Int):=(by omega);go_wp2_with fail;refine(zAO (some ⟨g,0,none⟩) l a s _ m z).mono ?_;rintro e F ⟨r,rfl⟩;have b:=d.trans (r.mono d.size);clear m n;generalize hmr:memR s zB6 0 a=q at*;obtain⟨⟨I,H,G,E⟩,c⟩:=q;unfold zF5;by_cases h1:1<c
   ·have h:Hid (repR a a=true):=(by rw[←k.out,repR];simp only [hmr];rw[if_pos h1];exact rfl);have u:(1:Int)<(c:Int):=(by omega);clear k hmr;go_wp2;go_ret;exact⟨b.alloc b.size _,by rw[h.out];rfl⟩
   ·have h:Hid (repR a (a.drop (j+1))=repR a a):=(by rw[←k.out,repR];simp only [hmr];rw[if_neg h1];exact rfl);have u:¬(1:Int)<(c:Int):=(by omega);clear k hmr;go_wp2;go_roundw
    case rel=>exact⟨j+1,by go_num,by omega,h.out,b.alloc b.size _⟩
    case measure=>simp[intOf];omega
  ·have h:Hid (repR a a=false):=(by rw[←hR.out,List.drop_eq_nil_of_le (by omega)];exact rfl);have p:¬(j:Int)<(a.length:Int):=(by omega);clear hR;go_wp2;go_ret;exact⟨d,by rw[h.out];rfl⟩
def z40:List (List UInt8)→List UInt8→List Nat→List (List UInt8)
 |acc,cur,[]=>if cur=[]then acc else acc++[cur]
 |acc,cur,c::t=>if c=10 then z40 (acc++[cur]) [] t else z40 acc (cur++[UInt8.ofNat c]) t
def linesP (l:List Nat):List (List UInt8):=z40 [] [] l
def strCells (l:List (List UInt8)):List Value:=l.map (fun x=>Value.string ⟨x.toArray⟩)
theorem zBt (l:List (List UInt8))(m:List UInt8):strCells (l++[m])=strCells l++[.string ⟨m.toArray⟩]:=by simp[strCells]
theorem strInfo:(prog.info? 9).map (fun i=>(i.zero,i.size,i.bytes))=some (some (.string ⟨#[]⟩),1,16):=by kernel_rfl
theorem zMn {s:ByteArray}{a j:Nat}{d:List UInt8}(h:s.extract a j=⟨d.toArray⟩)(o:a≤j)(m:j<s.size):s.extract a (j+1)=⟨(d++[UInt8.ofNat (s[j]).toNat]).toArray⟩:=by
 have g:=z5M s a (j-a);have k:=z5M s a (j-a+1);rw[show a+(j-a)=j by omega,h]at g;rw[show a+(j-a+1)=j+1 by omega]at k;have n:d=zU1 (((lets s).drop a).take (j-a)):=by
  have:=congrArg (fun b:ByteArray=>b.data.toList) g;simpa using this
 rw[k,n];congr 2;have e:j-a<((lets s).drop a).length:=by rw[List.length_drop,zSQ];omega
 rw[List.take_succ_eq_append_getElem e];simp only [zU1,List.map_append,List.map_cons,List.map_nil];congr 2;have:=zhG m;have l:(lets s)[j]?=some (s[j]).toNat:=by rw[←List.head?_drop,this];rfl
 have i:((lets s).drop a)[j-a]?=some (s[j]).toNat:=by rw[List.getElem?_drop,show a+(j-a)=j by omega];exact l
 rw[zC e]at i;rw[Option.some.inj i]
theorem zR5 (s:ByteArray)(a:Nat):s.extract a a=⟨([]:List UInt8).toArray⟩:=by
 have e:=z5M s a 0;simpa [zU1]using e
theorem zBg {s:ByteArray}{a j:Nat}{d:List UInt8}(h:s.extract a j=⟨d.toArray⟩)(k:a≤j)(i:j≤s.size):d.length=j-a:=by
 have e:=z5M s a (j-a);rw[show a+(j-a)=j by omega,h]at e;have g:d=zU1 (((lets s).drop a).take (j-a)):=by
  have:=congrArg (fun b:ByteArray=>b.data.toList) e;simpa using this
 rw[g];simp[zU1,zSQ];omega
theorem zHK (w:World)(a:Value)(t:TypeId):∀j u,[a][j]?=some u→(w.alloc (.cells #[a] t)).cell? ((⟨w.heap.size,0,none⟩:Addr).add j)=some u:=by
 intro j u b
 match j,b with
 |0,b=>simp at b;subst b;simp[Addr.add]
def zQR (s:ByteArray)(w:World)(e:Ending)(w':World):Prop:=
 Below w.heap.size w w'∧∃v,(linesP (lets s)).length≤s.size∧(∀l∈linesP (lets s),l.length≤s.size)∧w'.ownsRow w.heap.size 9 1 v (linesP (lets s)).length (strCells (linesP (lets s)))∧e=.returned v
theorem z7F (s:ByteArray)(w:World)(Y:s.size≤2000000):
 Calls prog 14 #[.string s] w fun e w'=>zQR s w e w':=by
 go_enter func14,ntmps14;go_wp2;go_loopw [3,4,5] (fun v fr i wr=>∃(j a:Nat) (b:List (List UInt8)) (d:List UInt8),fr=.int .i64 (a:Int)∧i=.int .i64 (j:Int)∧j≤s.size∧a≤j∧b.length≤a∧(∀l∈b,l.length≤s.size)∧s.extract a j=⟨d.toArray⟩∧z40 b d ((lets s).drop j)=linesP (lets s)∧wr.ownsRow w.heap.size 9 1 v b.length (strCells b)∧Below w.heap.size w wr) (fun _ _ i _=>s.size-(intOf i).toNat)
 case atStart=>exact⟨0,0,[],[],rfl,rfl,by omega,by omega,by simp,by simp,zR5 s 0,rfl,World.ownsRow_nil _ _ _ _,zD⟩
 case round=>
  obtain⟨R,N,F,H,G⟩:=info_parts strInfo;obtain⟨j,a,b,d,rfl,rfl,Q,D,M,o,K,U,g,q⟩:=hrel;have hR:Hid (z40 b d ((lets s).drop j)=linesP (lets s)):=U;clear U;have X:=q.size;have E:=zBg K D Q;have p:=zYv g;by_cases hin:j<s.size
  ·have L:(j:Int)<(s.size:Int):=(by omega);have B:Hid ((lets s).drop j=(s[j]).toNat::(lets s).drop (j+1)):=zhG hin;by_cases h10:(s[j]).toNat=10
   ·have W:(((s[j]).toNat:Int)==10)=true:=(by simp;omega);have n:Hid (z40 (b++[d]) [] ((lets s).drop (j+1))=linesP (lets s)):=(by rw[←hR.out,B.out,z40,if_pos h10];exact rfl);have t:∀l∈b++[d],l.length≤s.size:=by
     intro l m;rcases List.mem_append.1 m with m|m
     ·exact o l m
     ·simp at m;subst m;omega
    have I:(a:Int)≤(j:Int):=(by omega);have V:(j:Int)≤(s.size:Int):=(by omega);clear hR B h10 o;go_wp2_with (at_builtin;refine wpList_append_own _ rfl _ _ 45 rfl w.heap.size 9 R (.string ⟨#[]⟩) 1 16 underlying45 N F H G rfl (by decide) _ _ _ rfl (g.alloc _) ⟨wr.heap.size,0,none⟩ 1 1 [.string ⟨d.toArray⟩] rfl rfl ?c1 ?c2 ?c3 ?c4 ?c5 ?_)
    case c1=>exact zHK _ _ _
    case c2=>intro u O;simp at O;subst O;rfl
    case c3=>unfold maxLen;omega
    case c4=>omega
    case c5=>simp;omega
    intro C y h k _;have z:Below w.heap.size w y:=Below.grown' (q.alloc (by omega) _) k p;rw[←zBt]at h;have r:y.ownsRow w.heap.size 9 1 C (b++[d]).length (strCells (b++[d])):=(by simpa using h);clear h k p g;generalize hacc:b++[d]=acc' at*;have x:acc'.length≤j+1:=(by rw[←hacc];simp;omega);go_wp2;go_roundw
    case rel=>exact⟨j+1,j+1,acc',[],by go_num,by go_num,by omega,by omega,x,t,zR5 s (j+1),n.out,r,z⟩
    case measure=>simp[intOf];omega
   ·have W:(((s[j]).toNat:Int)==10)=false:=(by simp;omega);have n:Hid (z40 b (d++[UInt8.ofNat (s[j]).toNat]) ((lets s).drop (j+1))=linesP (lets s)):=(by rw[←hR.out,B.out,z40,if_neg h10];exact rfl);have S:=zMn K D hin;clear hR B h10;go_wp2;go_roundw
    case rel=>exact⟨j+1,a,b,_,rfl,by go_num,by omega,by omega,M,o,S,n.out,g,q⟩
    case measure=>simp[intOf];omega
  ·have J:j=s.size:=(by omega);have L:¬(j:Int)<(s.size:Int):=(by omega);have A:Hid (linesP (lets s)=if d=[]then b else b++[d]):=(by rw[←hR.out,zgM (by omega)];exact rfl);clear hR;by_cases ha:a<s.size
   ·have P:(a:Int)<(s.size:Int):=(by omega);have n:Hid (linesP (lets s)=b++[d]):=(by rw[A.out,if_neg (fun e=>by rw[e]at E;simp at E;omega)];exact rfl);have t:∀l∈b++[d],l.length≤s.size:=by
     intro l m;rcases List.mem_append.1 m with m|m
     ·exact o l m
     ·simp at m;subst m;omega
    have I:(a:Int)≤(s.size:Int):=(by omega);rw[J]at K;clear A o;go_wp2_with (at_builtin;refine wpList_append_own _ rfl _ _ 45 rfl w.heap.size 9 R (.string ⟨#[]⟩) 1 16 underlying45 N F H G rfl (by decide) _ _ _ rfl (g.alloc _) ⟨wr.heap.size,0,none⟩ 1 1 [.string ⟨d.toArray⟩] rfl rfl ?c1 ?c2 ?c3 ?c4 ?c5 ?_)
    case c2=>rfl
    case c3=>unfold maxLen;omega
    case c4=>omega
    case c5=>omega
    intro C y h k _;have z:Below w.heap.size w y:=Below.grown' (q.alloc (by omega) _) k p;rw[←zBt]at h;have r:y.ownsRow w.heap.size 9 1 C (b++[d]).length (strCells (b++[d])):=(by simpa using h);clear h k p g;have x:(b++[d]).length≤s.size:=(by simp;omega);go_wp2;go_ret;exact⟨z,C,by rw[n.out];exact x,by rw[n.out];exact t,by rw[n.out];exact r,rfl⟩
   ·have P:¬(a:Int)<(s.size:Int):=(by omega);have n:Hid (linesP (lets s)=b):=(by rw[A.out,if_pos (List.length_eq_zero_iff.1 (by omega))];exact rfl);clear A;go_wp2;go_ret;exact⟨q,u3,by rw[n.out];omega,by rw[n.out];exact o,by rw[n.out];exact g,rfl⟩
def zfp:List RM→List Pc→Option (List RM)
 |acc,[]=>some acc
 |acc,[k,c,v]=>if(valP v).2.2.2=true∧k.1=34∧c.1=58 then some (acc++[mkRM k v])else none
 |acc,k::c::v::e::r=>if(valP v).2.2.2=true∧k.1=34∧c.1=58∧e.1=44 then zfp (acc++[mkRM k v]) r else none
 |_,_=>none
def zTi (ps:List Pc):List Pc:=(ps.drop 1).take (ps.length-2)
def objI (ps:List Pc):Option (List RM):=
 if ps.length<2 then none else if(ps.headD (0,[])).1≠123 then none else if((ps.drop (ps.length-1)).headD (0,[])).1≠125 then none
 else if ps.length=2 then some []else if(ps.length-2)%4≠3 then none else zfp [] (zTi ps)
theorem zYi (ps:List Pc)(i:Nat)(h:i<ps.length):(z9c ps)[i*2]?=some (.int .u8 ((ps[i]).1:Int))∧(z9c ps)[i*2+1]?=some (.string ⟨(ps[i]).2.toArray⟩):=by
 induction ps generalizing i with
 |nil=>simp at h
 |cons m r ih=>
   have e:z9c (m::r)=zEN m++z9c r:=(by simp[z9c]);have d:(zEN m).length=2:=rfl;rw[e];cases i with
   |zero=>simp[zEN]
   |succ i=>
     obtain⟨a,b⟩:=ih i (by simpa using h);refine⟨?_,?_⟩
     ·rw[List.getElem?_append_right (by omega),d,show(i+1)*2-2=i*2 by omega,a];simp
     ·rw[List.getElem?_append_right (by omega),d,show(i+1)*2+1-2=i*2+1 by omega,b];simp
theorem zdd {w:World}{a g d n:Nat}{b:List Value}(h:w.ownsRow a 122 2 (.slice (some ⟨g,0,none⟩) n d) n b):
 ∀j u,b[j]?=some u→w.cell? ⟨g,j,none⟩=some u:=by
 intro j u e;have:=h.cells (g:=g) rfl j u e;by_cases h0:j=0
 ·subst h0;simpa [Addr.add]using this
 ·simpa [Addr.add,h0]using this
def rmOk (m:RM):Prop:=m.1.length≤8000000∧m.2.1<256∧m.2.2.1.length≤8000000
def zQd (s:ByteArray)(w:World)(e:Ending)(w':World):Prop:=
 Below w.heap.size w w'∧((∃ms o cap,(zvF (lets s)).bind objI=some ms∧ms.length≤s.size∧(∀m∈ms,rmOk m)∧RRow w' o ms∧e=.returned (.tuple #[.slice o ms.length cap,.bool true]))∨
  ((zvF (lets s)).bind objI=none∧e=.returned (.tuple #[.slice none 0 0,.bool false])))
theorem zGF:(prog.info? 74).map (fun i=>(i.zero,i.size,i.bytes))=some (some (.agg #[.string ⟨#[]⟩,.int .u8 0,.string ⟨#[]⟩,.int .i64 0]),4,48):=by kernel_rfl
theorem z3BS (ps:List Pc)(j:Nat)(h:j+2<ps.length):(zTi ps).drop j=ps[j+1]::(zTi ps).drop (j+1):=by
 have a:j<(zTi ps).length:=by simp[zTi];omega
 rw[List.drop_eq_getElem_cons a];congr 1;simp[zTi]
theorem zjh (ps:List Pc)(j:Nat)(h:j+4<ps.length):(zTi ps).drop j=ps[j+1]::ps[j+2]::ps[j+3]::(zTi ps).drop (j+3):=by
 rw[z3BS ps j (by omega),z3BS ps (j+1) (by omega),z3BS ps (j+2) (by omega)]
theorem zZx (b:Nat)(s:ByteArray):(zMi b s).1<256∧(zMi b s).2.1.size≤s.size:=by
 unfold zMi;have a:(⟨#[]⟩:ByteArray).size≤s.size:=Nat.zero_le _;split
 ·exact⟨by omega,Nat.le_refl _⟩
 ·split
  ·exact⟨by omega,a⟩
  ·split
   ·exact⟨by omega,a⟩
   ·split
    ·exact⟨by omega,a⟩
    ·split
     ·exact⟨by omega,a⟩
     ·exact⟨by omega,a⟩
theorem zEr {a:List RM}{k c v:Pc}{r:List Pc}(h:¬((valP v).2.2.2=true∧k.1=34∧c.1=58)):zfp a (k::c::v::r)=none:=by
 cases r with
 |nil=>rw[zfp,if_neg h]
 |cons e r=>rw[zfp,if_neg (fun hh=>h ⟨hh.1,hh.2.1,hh.2.2.1⟩)]
theorem z1Y {a:List RM}{k c v e:Pc}{r:List Pc}(h:e.1≠44):zfp a (k::c::v::e::r)=none:=by
 rw[zfp,if_neg (fun hh=>h hh.2.2.2)]
theorem z2h (l:List RM)(m:RM):zQE (l++[m])=zQE l++zqV m:=by simp[zQE]
theorem zNP {W:World}{a:Addr}{v:Value}(o:Obj)(b:a.block<W.heap.size)(h:W.cell? a=some v):(W.alloc o).cell? a=some v:=(((Below.refl W.heap.size W).alloc zH o).cell b).trans h
theorem zzD {w:World}{b:Nat}{e:TypeId}{i:Nat}{v:Value}{n:Nat}{l:List Value}(h:w.ownsRow b e i v n l):(v=.slice none 0 0∧n=0)∨∃g a,v=.slice (some ⟨g,0,none⟩) n a∧n≤a∧b≤g∧g<w.heap.size:=by
 rcases h.2 with ⟨d,o⟩|⟨g,a,p,d,k,m,j,_⟩
 ·exact Or.inl ⟨d,o⟩
 ·exact Or.inr ⟨g,a,d,j,k,zBq m⟩
theorem zws (s:ByteArray)(w:World)(hs:s.size≤2000000):
 Calls prog 23 #[.string s] w fun e w'=>zQd s w e w':=by
 go_enter func23,ntmps23;go_wp2_with fail;refine(zGy s _ hs).mono ?_;rintro e D ⟨r,⟨ps,v,hp,aP,Q,A,rfl⟩|⟨hp,rfl⟩⟩
 ·rcases zzD A with ⟨rfl,ae⟩|⟨g,av,rfl,aF,aM,N⟩
  ·have l:Hid ((zvF (lets s)).bind objI=none):=by
    rw[hp,List.length_eq_zero_iff.1 ae];exact rfl
   clear hp A Q;go_wp2;go_ret2;exact⟨r,Or.inr ⟨l.out,rfl⟩⟩
  ·have b:=zdd A;clear A;have hB:Hid ((zvF (lets s)).bind objI=objI ps):=(by rw[hp];exact rfl);clear hp;by_cases h2:ps.length<2
   ·have l:Hid ((zvF (lets s)).bind objI=none):=(by rw[hB.out,objI,if_pos h2];exact rfl);have aC:(ps.length:Int)<2:=(by omega);clear hB b;go_wp2;go_ret2;exact⟨r,Or.inr ⟨l.out,rfl⟩⟩
   ·have aC:¬(ps.length:Int)<2:=(by omega);obtain⟨x0,x1⟩:=zYi ps 0 (by omega);obtain⟨y0,y1⟩:=zYi ps (ps.length-1) (by omega);have c0:=b _ _ x0;have c1:=b _ _ x1;have d0:=b _ _ y0;have d1:=b _ _ y1;clear x0 x1 y0 y1;rw[Nat.zero_mul]at c0 c1;by_cases h123:(ps[0]).1=123
    ·by_cases h125:(ps[ps.length-1]).1=125
     ·have hC:Hid ((zvF (lets s)).bind objI=if ps.length=2 then some []else if(ps.length-2)%4≠3 then none else zfp [] (zTi ps)):=by
       rw[hB.out,objI,if_neg h2,if_neg (by rw[show ps.headD (0,[])=ps[0] by cases ps with|nil=>simp at h2|cons a t=>rfl];simpa using h123),if_neg (by rw[List.drop_eq_getElem_cons (show ps.length-1<ps.length by omega)];exact fun O=>O h125)];exact rfl
      have q1:(((ps[0]).1:Int) != 123)=false:=(by simp;omega);have q2:(((ps[ps.length-1]).1:Int) != 125)=false:=(by simp;omega);clear hB h123 h125;generalize ps[ps.length-1]=z at*;generalize ps[0]=z0 at*;have aw:(((ps.length:Int)-1).toNat)=ps.length-1:=(by omega);have ar:(0:Int)≤(ps.length:Int)-1:=(by omega);have ax:(ps.length:Int)-1<(ps.length:Int):=(by omega);have aj:(1:Int)≤(ps.length:Int)-1:=(by omega);have aD:(ps.length:Int)-1≤(av:Int):=(by omega);by_cases h2e:ps.length=2
      ·have l:Hid ((zvF (lets s)).bind objI=some []):=(by rw[hC.out,if_pos h2e];exact rfl);rw[h2e]at d0 d1;have aS:D.cell? ⟨g,2,none⟩=some (.int .u8 (z.1:Int)):=d0;have aT:D.cell? ⟨g,3,none⟩=some (.string ⟨z.2.toArray⟩):=d1;have aR:(1:Int)≤(av:Int):=(by omega);clear hC d0 d1 b Q;go_wp2;go_ret2;exact⟨r,Or.inl ⟨[],none,0,l.out,by simp,by simp,fun h=>absurd rfl h,rfl⟩⟩
      ·have r1:(((ps.length-1-1:Nat):Int)==0)=false:=(by simp;omega);by_cases h3:(ps.length-2)%4=3
       ·have hM:Hid ((zvF (lets s)).bind objI=zfp [] (zTi ps)):=(by rw[hC.out,if_neg h2e,if_neg (fun O=>O h3)];exact rfl);have r2:(((ps.length-1-1:Nat):Int)%4 != 3)=false:=(by simp;omega);have M:=r.size;clear hC;go_wp2;go_loopw [6,7] (fun v i wr=>∃(j:Nat) (d:List RM),i=.int .i64 (j:Int)∧(j=ps.length-1∨(j<ps.length-2∧(ps.length-2-j)%4=3))∧d.length≤j∧(∀m∈d,rmOk m)∧zfp d ((zTi ps).drop j)=(zvF (lets s)).bind objI∧wr.ownsRow D.heap.size 74 4 v d.length (zQE d)∧Below D.heap.size D wr) (fun _ i _=>ps.length-(intOf i).toNat)
        case atStart=>exact⟨0,[],rfl,Or.inr ⟨by omega,by omega⟩,by simp,by simp,hM.out.symm,World.ownsRow_nil _ _ _ _,zD⟩
        case round=>
         obtain⟨i0,hi,aq,au,am⟩:=info_parts zGF;obtain⟨j,d,rfl,aV,aL,R,HR,A,E⟩:=hrel;have hR:Hid (zfp d ((zTi ps).drop j)=(zvF (lets s)).bind objI):=HR;clear HR hM;have aO:=E.size;have aK:=zYv A;by_cases hjl:j<ps.length-2
         ·have aA:(j:Int)<((ps.length-1-1:Nat):Int):=(by omega);have aH:(ps.length-2-j)%4=3:=(by omega);obtain⟨⟨kn,B⟩,⟨cn,cs⟩,⟨Y,P⟩,F,Z,an,ag,k0,k1,e0,e1,f0,f1⟩:∃kk cc vv:Pc,Hid ((zTi ps).drop j=kk::cc::vv::(zTi ps).drop (j+3))∧
           Hid (j+3=ps.length-2∨∃ee:Pc,j+4<ps.length-2∧(zTi ps).drop (j+3)=ee::(zTi ps).drop (j+4)∧D.cell? ⟨g,2+(j+3)*2,none⟩=some (.int .u8 (ee.1:Int))∧D.cell? ⟨g,2+(j+3)*2+1,none⟩=some (.string ⟨ee.2.toArray⟩))∧
           pcOk kk∧pcOk vv∧
           wr.cell? ⟨g,2+j*2,none⟩=some (.int .u8 (kk.1:Int))∧wr.cell? ⟨g,2+j*2+1,none⟩=some (.string ⟨kk.2.toArray⟩)∧
           wr.cell? ⟨g,2+(j+1)*2,none⟩=some (.int .u8 (cc.1:Int))∧wr.cell? ⟨g,2+(j+1)*2+1,none⟩=some (.string ⟨cc.2.toArray⟩)∧
           wr.cell? ⟨g,2+(j+2)*2,none⟩=some (.int .u8 (vv.1:Int))∧wr.cell? ⟨g,2+(j+2)*2+1,none⟩=some (.string ⟨vv.2.toArray⟩):=by
           obtain⟨x0,x1⟩:=zYi ps (j+1) (by omega);obtain⟨y0,y1⟩:=zYi ps (j+2) (by omega);obtain⟨v0,v1⟩:=zYi ps (j+3) (by omega);refine⟨ps[j+1],ps[j+2],ps[j+3],zjh ps j (by omega),?_,Q _ (List.getElem_mem _),Q _ (List.getElem_mem _),
            (E.cell (p:=⟨g,2+j*2,none⟩) N).trans (by rw[show 2+j*2=(j+1)*2 by omega];exact b _ _ x0),
            (E.cell (p:=⟨g,2+j*2+1,none⟩) N).trans (by rw[show 2+j*2+1=(j+1)*2+1 by omega];exact b _ _ x1),
            (E.cell (p:=⟨g,2+(j+1)*2,none⟩) N).trans (by rw[show 2+(j+1)*2=(j+2)*2 by omega];exact b _ _ y0),
            (E.cell (p:=⟨g,2+(j+1)*2+1,none⟩) N).trans (by rw[show 2+(j+1)*2+1=(j+2)*2+1 by omega];exact b _ _ y1),
            (E.cell (p:=⟨g,2+(j+2)*2,none⟩) N).trans (by rw[show 2+(j+2)*2=(j+3)*2 by omega];exact b _ _ v0),
            (E.cell (p:=⟨g,2+(j+2)*2+1,none⟩) N).trans (by rw[show 2+(j+2)*2+1=(j+3)*2+1 by omega];exact b _ _ v1)⟩
           by_cases hlast:j+3=ps.length-2
           ·exact Or.inl hlast
           ·have ak:j+4<ps.length-2:=(by omega);obtain⟨u0,u1⟩:=zYi ps (j+4) (by omega);exact Or.inr ⟨ps[j+4],ak,z3BS ps (j+3) (by omega),by rw[show 2+(j+3)*2=(j+4)*2 by omega];exact b _ _ u0,by rw[show 2+(j+3)*2+1=(j+4)*2+1 by omega];exact b _ _ u1⟩
          simp only at k0 k1 e0 e1 f0 f1;have i2:((j:Int)+2)<((ps.length-1-1:Nat):Int):=(by omega);have n2:((j:Int)+2).toNat=j+2:=(by omega);have p2:(0:Int)≤(j:Int)+2:=(by omega);clear b Q c0 c1 d0 d1 q1 q2 r1 r2 aw ar ax aj aD;go_wp2_with fail;refine(z4Z Y ⟨P.toArray⟩ _ (by show P.toArray.size≤9000000;have:P.length≤8000000:=ag.2;simp;omega) ag.1).mono ?_;rintro e X ⟨U,rfl⟩;have ai:=zZx Y ⟨P.toArray⟩;have C:Below D.heap.size D X:=E.trans (U.mono E.size);have aI:=C.size;have L:=zzF A (Kept.of_below (S:=[]) U) (by simp);have af:g<wr.heap.size:=(by omega);have W:g<X.heap.size:=(by omega);replace k0:=(U.cell (p:=⟨g,2+j*2,none⟩) af).trans k0;replace k1:=(U.cell (p:=⟨g,2+j*2+1,none⟩) af).trans k1;replace e0:=(U.cell (p:=⟨g,2+(j+1)*2,none⟩) af).trans e0;replace e1:=(U.cell (p:=⟨g,2+(j+1)*2+1,none⟩) af).trans e1;have ao:Hid (∀x y z u,zMi Y ⟨P.toArray⟩=(x,⟨y⟩,z,u)→valP (Y,P)=(x,y.toList,z,u)):=by
           intro x y z u O;unfold valP;rw[O]
          generalize hq:zMi Y ⟨P.toArray⟩=q at*;obtain⟨n,⟨va⟩,o,vg⟩:=q;obtain⟨k,rfl⟩:∃k:List UInt8,va=k.toArray:=⟨va.toList,by simp⟩;have hV:Hid (valP (Y,P)=(n,k,o,vg)):=(by have:=ao.out _ _ _ _ rfl;simp only at this;exact this);have J:rmOk (B,n,k,o):=⟨an.2,ai.1,by
           have h9:k.toArray.size≤P.toArray.size:=ai.2;have h8:P.length≤8000000:=ag.2;show k.length≤8000000;simp at h9;omega⟩
          have V:mkRM (kn,B) (Y,P)=(B,n,k,o):=(by unfold mkRM;rw[hV.out]);clear f0 f1 A ao hq ai an ag;unfold zAj rMem;dsimp only;replace k0:=zNP (.cells #[.string ⟨#[]⟩,.int .u8 (n:Int),.string ⟨k.toArray⟩,.int .i64 o] 74) W k0;replace k1:=zNP (.cells #[.string ⟨#[]⟩,.int .u8 (n:Int),.string ⟨k.toArray⟩,.int .i64 o] 74) W k1;replace e0:=zNP (.cells #[.string ⟨#[]⟩,.int .u8 (n:Int),.string ⟨k.toArray⟩,.int .i64 o] 74) W e0;replace e1:=zNP (.cells #[.string ⟨#[]⟩,.int .u8 (n:Int),.string ⟨k.toArray⟩,.int .i64 o] 74) W e1;cases vg with
          |false=>
            have l:Hid ((zvF (lets s)).bind objI=none):=by
             rw[←hR.out,F.out,zEr (fun O=>by rw[hV.out]at O;exact absurd O.1 (by simp))];exact rfl
            clear hR F hV Z V J;go_wp2;go_ret2;exact⟨r.trans ((C.alloc (by omega) _).mono M),Or.inr ⟨l.out,rfl⟩⟩
          |true=>
            have i1:((j:Int)+1)<((ps.length-1-1:Nat):Int):=(by omega);have n1:((j:Int)+1).toNat=j+1:=(by omega);have p1:(0:Int)≤(j:Int)+1:=(by omega);by_cases hk34:kn=34
            ·have s1:((kn:Int) != 34)=false:=(by simp;omega);by_cases hc58:cn=58
             ·have s2:((cn:Int) != 58)=false:=(by simp;omega);have n3:((j:Int)+3).toNat=j+3:=(by omega);have p3:(0:Int)≤(j:Int)+3:=(by omega);have al:(¬((j:Int)+3)<((ps.length-1-1:Nat):Int)∧j+3=ps.length-2∧Hid (zfp (d++[(B,n,k,o)]) ((zTi ps).drop (j+4))=(zvF (lets s)).bind objI))∨
               (∃(c4:Nat) (t4:List UInt8),((j:Int)+3)<((ps.length-1-1:Nat):Int)∧(X.alloc (.cells #[.string ⟨#[]⟩,.int .u8 (n:Int),.string ⟨k.toArray⟩,.int .i64 o] 74)).cell? ⟨g,2+(j+3)*2,none⟩=some (.int .u8 (c4:Int))∧(X.alloc (.cells #[.string ⟨#[]⟩,.int .u8 (n:Int),.string ⟨k.toArray⟩,.int .i64 o] 74)).cell? ⟨g,2+(j+3)*2+1,none⟩=some (.string ⟨t4.toArray⟩)∧
                ((((c4:Int) != 44)=true∧Hid ((zvF (lets s)).bind objI=none))∨(((c4:Int) != 44)=false∧j+4<ps.length-2∧Hid (zfp (d++[(B,n,k,o)]) ((zTi ps).drop (j+4))=(zvF (lets s)).bind objI)))):=by
               have ay:(valP (Y,P)).2.2.2=true:=(by rw[hV.out]);rcases Z.out with hlast|⟨⟨en,es⟩,ak,hd4,u0,u1⟩
               ·left;refine⟨by omega,hlast,?_⟩;show _=_;rw[←V,←hR.out,F.out,List.drop_eq_nil_of_le (show(zTi ps).length≤j+4 by simp[zTi];omega),List.drop_eq_nil_of_le (show(zTi ps).length≤j+3 by simp[zTi];omega),zfp,zfp,if_pos ⟨ay,hk34,hc58⟩]
               ·right;refine⟨en,es,by omega,zNP _ W ((C.cell (p:=⟨g,2+(j+3)*2,none⟩) N).trans u0),zNP _ W ((C.cell (p:=⟨g,2+(j+3)*2+1,none⟩) N).trans u1),?_⟩;by_cases h44:en=44
                ·right;refine⟨by simp;omega,ak,?_⟩;show _=_;rw[←V,←hR.out,F.out,hd4,zfp,if_pos ⟨ay,hk34,hc58,h44⟩]
                ·left;refine⟨by simp;omega,?_⟩;show _=_;rw[←hR.out,F.out,hd4,z1Y h44]
              clear hR F hV hk34 hc58 V Z;rcases al with ⟨i3,aj,l⟩|⟨c4,t4,i3,u0,u1,⟨s4,l⟩|⟨s4,aj,l⟩⟩
              ·have aN:decide (((j:Int)+3)<((ps.length-1-1:Nat):Int))=false:=(by simp only [decide_eq_false_iff_not];exact i3);clear i3;have I:=zYv L;go_wp2_with (at_builtin;refine wpList_append_own _ rfl _ _ 69 rfl D.heap.size 74 i0 (.agg #[.string ⟨#[]⟩,.int .u8 0,.string ⟨#[]⟩,.int .i64 0]) 4 48 underlying69 hi aq au am rfl (by decide) _ _ _ rfl ((L.alloc _).alloc _) ⟨X.heap.size+1,0,none⟩ 1 1 (zqV (B,n,k,o)) rfl rfl ?c1 ?c2 ?c3 ?c4 ?c5 ?_)
               case c1=>
                have:=zri (X.alloc (.cells #[.string ⟨B.toArray⟩,.int .u8 (n:Int),.string ⟨k.toArray⟩,.int .i64 o] 74)) (.string ⟨B.toArray⟩) (.int .u8 (n:Int)) (.string ⟨k.toArray⟩) (.int .i64 o) 74;simpa [zqV]using this
               case c2=>
                intro u hu;simp[zqV]at hu;rcases hu with rfl|rfl|rfl|rfl<;>rfl
               case c3=>unfold maxLen;omega
               case c4=>omega
               case c5=>simp;omega
               intro v5 w5 G H _;have ah:Below D.heap.size D w5:=Below.grown' ((C.alloc (by omega) _).alloc (by simp;omega) _) H I;rw[←z2h]at G;have aa:w5.ownsRow D.heap.size 74 4 v5 (d++[(B,n,k,o)]).length (zQE (d++[(B,n,k,o)])):=(by simpa using G);have ab:∀m∈d++[(B,n,k,o)],rmOk m:=by
                intro m K;rcases List.mem_append.1 K with K|K
                ·exact R m K
                ·simp at K;subst K;exact J
               have ad:(d++[(B,n,k,o)]).length≤j+4:=(by simp;omega);clear G H I L R;generalize d++[(B,n,k,o)]=acc' at*;go_wp2;go_roundw
               case rel=>exact⟨j+4,acc',by go_num,by omega,ad,ab,l.out,aa,ah⟩
               case measure=>simp[intOf];omega
              ·clear J;go_wp2;go_ret2;exact⟨r.trans ((C.alloc (by omega) _).mono M),Or.inr ⟨l.out,rfl⟩⟩
              ·skip
               have I:=zYv L;go_wp2_with (at_builtin;refine wpList_append_own _ rfl _ _ 69 rfl D.heap.size 74 i0 (.agg #[.string ⟨#[]⟩,.int .u8 0,.string ⟨#[]⟩,.int .i64 0]) 4 48 underlying69 hi aq au am rfl (by decide) _ _ _ rfl ((L.alloc _).alloc _) ⟨X.heap.size+1,0,none⟩ 1 1 (zqV (B,n,k,o)) rfl rfl ?c1 ?c2 ?c3 ?c4 ?c5 ?_)
               case c1=>
                have:=zri (X.alloc (.cells #[.string ⟨B.toArray⟩,.int .u8 (n:Int),.string ⟨k.toArray⟩,.int .i64 o] 74)) (.string ⟨B.toArray⟩) (.int .u8 (n:Int)) (.string ⟨k.toArray⟩) (.int .i64 o) 74;simpa [zqV]using this
               case c2=>
                intro u hu;simp[zqV]at hu;rcases hu with rfl|rfl|rfl|rfl<;>rfl
               case c3=>unfold maxLen;omega
               case c4=>omega
               case c5=>simp;omega
               intro v5 w5 G H _;have ah:Below D.heap.size D w5:=Below.grown' ((C.alloc (by omega) _).alloc (by simp;omega) _) H I;rw[←z2h]at G;have aa:w5.ownsRow D.heap.size 74 4 v5 (d++[(B,n,k,o)]).length (zQE (d++[(B,n,k,o)])):=(by simpa using G);have ab:∀m∈d++[(B,n,k,o)],rmOk m:=by
                intro m K;rcases List.mem_append.1 K with K|K
                ·exact R m K
                ·simp at K;subst K;exact J
               have ad:(d++[(B,n,k,o)]).length≤j+4:=(by simp;omega);clear G H I L R;generalize d++[(B,n,k,o)]=acc' at*;go_wp2;go_roundw
               case rel=>exact⟨j+4,acc',by go_num,by omega,ad,ab,l.out,aa,ah⟩
               case measure=>simp[intOf];omega
             ·have s2:((cn:Int) != 58)=true:=(by simp;omega);have l:Hid ((zvF (lets s)).bind objI=none):=by
               rw[←hR.out,F.out,zEr (fun O=>hc58 O.2.2)];exact rfl
              clear hR F hV Z V J;go_wp2;go_ret2;exact⟨r.trans ((C.alloc (by omega) _).mono M),Or.inr ⟨l.out,rfl⟩⟩
            ·have s1:((kn:Int) != 34)=true:=(by simp;omega);have l:Hid ((zvF (lets s)).bind objI=none):=by
              rw[←hR.out,F.out,zEr (fun O=>hk34 O.2.1)];exact rfl
             clear hR F hV Z V J;go_wp2;go_ret2;exact⟨r.trans ((C.alloc (by omega) _).mono M),Or.inr ⟨l.out,rfl⟩⟩
         ·have aU:j=ps.length-1:=(by omega);have l:Hid ((zvF (lets s)).bind objI=some d):=by
           rw[←hR.out,List.drop_eq_nil_of_le (by simp[zTi];omega)];exact rfl
          have aA:¬(j:Int)<((ps.length-1-1:Nat):Int):=(by omega);clear hR;rcases zzD A with ⟨rfl,ae⟩|⟨g5,az,rfl,aE,aJ,aB⟩
          all_goals
           go_wp2;go_ret2
          ·exact⟨r.trans (E.mono M),Or.inl ⟨d,none,0,l.out,by omega,R,fun h=>absurd (List.length_eq_zero_iff.1 ae) h,by rw[ae];rfl⟩⟩
          ·refine⟨r.trans (E.mono M),Or.inl ⟨d,_,az,l.out,by omega,R,fun _=>⟨g5,rfl,aB,?_⟩,rfl⟩⟩;intro i u hu;have:=A.cells (g:=g5) rfl i u hu;by_cases h0:i=0
           ·subst h0;simpa [Addr.add]using this
           ·simpa [Addr.add,h0]using this
       ·have l:Hid ((zvF (lets s)).bind objI=none):=(by rw[hC.out,if_neg h2e,if_pos h3];exact rfl);have r2:(((ps.length-1-1:Nat):Int)%4 != 3)=true:=(by simp;omega);clear hC b Q;go_wp2;go_ret2;exact⟨r,Or.inr ⟨l.out,rfl⟩⟩
     ·have l:Hid ((zvF (lets s)).bind objI=none):=by
       rw[hB.out,objI,if_neg h2,if_neg (by rw[show ps.headD (0,[])=ps[0] by cases ps with|nil=>simp at h2|cons a t=>rfl];simpa using h123),if_pos (by rw[List.drop_eq_getElem_cons (show ps.length-1<ps.length by omega)];exact h125)];exact rfl
      have q1:(((ps[0]).1:Int) != 123)=false:=(by simp;omega);have q2:(((ps[ps.length-1]).1:Int) != 125)=true:=(by simp;omega);clear hB h123 h125;generalize ps[ps.length-1]=z at*;generalize ps[0]=z0 at*;have aw:(((ps.length:Int)-1).toNat)=ps.length-1:=(by omega);have ar:(0:Int)≤(ps.length:Int)-1:=(by omega);have ax:(ps.length:Int)-1<(ps.length:Int):=(by omega);go_wp2;go_ret2;exact⟨r,Or.inr ⟨l.out,rfl⟩⟩
    ·have l:Hid ((zvF (lets s)).bind objI=none):=by
      rw[hB.out,objI,if_neg h2,if_pos (by rw[show ps.headD (0,[])=ps[0] by cases ps with|nil=>simp at h2|cons a t=>rfl];exact h123)];exact rfl
     have q1:(((ps[0]).1:Int) != 123)=true:=(by simp;omega);have aQ:(0:Int)<(ps.length:Int):=(by omega);clear hB h123;generalize ps[0]=z0 at*;go_wp2;go_ret2;exact⟨r,Or.inr ⟨l.out,rfl⟩⟩
 ·have l:Hid ((zvF (lets s)).bind objI=none):=by rw[hp];exact rfl
  clear hp;go_wp2;go_ret2;exact⟨r,Or.inr ⟨l.out,rfl⟩⟩
end Go.Proofs.YtoeoinpaidhmcaaGreatDoor
