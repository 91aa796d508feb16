/- Several texts in one. -/
import Derived.Test.YtbbkihekjdffpaaGreatDoorPureX
import Derived.OneCell
set_option maxHeartbeats 4000000
set_option maxRecDepth 100000
namespace Go.Proofs.YtbbkihekjdffpaaGreatDoor
open Tryz
open Go.RowKit
def zqV (m:RM):List Value:=[.string ⟨m.1.toArray⟩,.int .u8 (m.2.1:Int),.string ⟨m.2.2.1.toArray⟩,.int .i64 m.2.2.2]
def zQE (l:List RM):List Value:=l.flatMap zqV
theorem z41 (ms:List RM)(i:Nat)(h:i<ms.length):(zQE ms)[i*4]?=some (.string ⟨(ms[i]).1.toArray⟩)∧(zQE ms)[i*4+1]?=some (.int .u8 ((ms[i]).2.1:Int))∧(zQE ms)[i*4+2]?=some (.string ⟨(ms[i]).2.2.1.toArray⟩)∧(zQE ms)[i*4+3]?=some (.int .i64 (ms[i]).2.2.2):=by
 induction ms generalizing i with
 |nil=>simp at h
 |cons m r ih=>
   have e:zQE (m::r)=zqV m++zQE r:=(by simp[zQE]);have hl:(zqV m).length=4:=rfl;rw[e];cases i with
   |zero=>simp[zqV]
   |succ i=>
     obtain⟨a,b,c,d⟩:=ih i (by simpa using h);refine⟨?_,?_,?_,?_⟩
     ·rw[List.getElem?_append_right (by omega),hl,show(i+1)*4-4=i*4 by omega,a];simp
     ·rw[List.getElem?_append_right (by omega),hl,show(i+1)*4+1-4=i*4+1 by omega,b];simp
     ·rw[List.getElem?_append_right (by omega),hl,show(i+1)*4+2-4=i*4+2 by omega,c];simp
     ·rw[List.getElem?_append_right (by omega),hl,show(i+1)*4+3-4=i*4+3 by omega,d];simp
def RRow (w:World)(o:Option Addr)(ms:List RM):Prop:=
 ms≠[]→∃g,o=some ⟨g,0,none⟩∧g<w.heap.size∧∀j u,(zQE ms)[j]?=some u→w.cell? ⟨g,j,none⟩=some u
theorem RRow.below {w w':World}{o:Option Addr}{ms:List RM}(h:RRow w o ms)(k:Below w.heap.size w w'):RRow w' o ms:=by
 intro hne;obtain⟨g,h1,h2,h3⟩:=h hne;exact⟨g,h1,zH h2 k.size,fun j u hj=>(k.cell (p:=⟨g,j,none⟩) h2).trans (h3 j u hj)⟩
def memR (nm:List UInt8):RM→Nat→List RM→RM×Nat
 |m,n,[]=>(m,n)
 |m,n,x::r=>if x.1=nm then memR nm x (n+1) r else memR nm m n r
def zB6:RM:=([],0,[],0)
def zF5 (m:RM):Value:=.agg #[.string ⟨m.1.toArray⟩,.int .u8 (m.2.1:Int),.string ⟨m.2.2.1.toArray⟩,.int .i64 m.2.2.2]
def rmBlk (w:World)(b:Nat)(m:RM):Prop:=w.heap[b]?=some (.cells #[.string ⟨m.1.toArray⟩,.int .u8 (m.2.1:Int),.string ⟨m.2.2.1.toArray⟩,.int .i64 m.2.2.2] 123 (0,0))
theorem rmBlk.set {w:World}{b:Nat}{m:RM}(h:rmBlk w b m)(x:RM):rmBlk ((((w.setCell ⟨b,0,none⟩ (.string ⟨x.1.toArray⟩)).setCell ⟨b,1,none⟩ (.int .u8 (x.2.1:Int))).setCell ⟨b,2,none⟩ (.string ⟨x.2.2.1.toArray⟩)).setCell ⟨b,3,none⟩ (.int .i64 x.2.2.2)) b x:=by
 unfold rmBlk at*;rw[zFg (zFg (zFg (zFg h 0 _) 1 _) 2 _) 3 _];simp
theorem rmBlk.other {w:World}{b c:Nat}{m:RM}(h:rmBlk w b m)(hn:b≠c)(x y z u:Value):rmBlk ((((w.setCell ⟨c,0,none⟩ x).setCell ⟨c,1,none⟩ y).setCell ⟨c,2,none⟩ z).setCell ⟨c,3,none⟩ u) b m:=by
 unfold rmBlk at*;rw[zRA hn,zRA hn,zRA hn,zRA hn];exact h
theorem zAO (o:Option Addr)(cap:Nat)(ms:List RM)(nm:List UInt8)(w:World)(hr:RRow w o ms)(hl:ms.length≤2000000):
 Calls prog 56 #[.slice o ms.length cap,.string ⟨nm.toArray⟩] w fun e w'=>Below w.heap.size w w'∧e=.returned (.tuple #[zF5 (memR nm zB6 0 ms).1,.int .i64 ((memR nm zB6 0 ms).2:Int)]):=by
 go_enter func56,ntmps56;go_wp2;go_loopw [7,8] (fun nv i wr=>∃(j n:Nat) (m:RM),nv=.int .i64 (n:Int)∧i=.int .i64 (j:Int)∧j≤ms.length∧n≤j∧memR nm m n (ms.drop j)=memR nm zB6 0 ms∧rmBlk wr (w.heap.size+1) m∧rmBlk wr w.heap.size zB6∧Below w.heap.size w wr) (fun _ i _=>ms.length-(intOf i).toNat)
 case atStart=>
  refine⟨0,0,zB6,rfl,rfl,by omega,by omega,rfl,?_,?_,(zA _ _).alloc (by simp) _⟩
  ·exact ziF _ _ _ (by simp)
  ·exact(zD1 _ _ _ (by simp)).trans (ziF _ _ _ rfl)
 case round=>
  obtain⟨j,n,m,rfl,rfl,hj,hnj,HR,hm,hz,hbl⟩:=hrel;have hR:Hid (memR nm m n (ms.drop j)=memR nm zB6 0 ms):=HR;clear HR;have hsz:=zBq hm;have m0:wr.cell? ⟨w.heap.size+1,0,none⟩=some (.string ⟨m.1.toArray⟩):=by rw[zBk hm];rfl
  have m1:wr.cell? ⟨w.heap.size+1,1,none⟩=some (.int .u8 (m.2.1:Int)):=by rw[zBk hm];rfl
  have m2:wr.cell? ⟨w.heap.size+1,2,none⟩=some (.string ⟨m.2.2.1.toArray⟩):=by rw[zBk hm];rfl
  have m3:wr.cell? ⟨w.heap.size+1,3,none⟩=some (.int .i64 m.2.2.2):=by rw[zBk hm];rfl
  have mf0:wr.frozen? ⟨w.heap.size+1,0,none⟩=false:=zBn hm 0;have mf1:wr.frozen? ⟨w.heap.size+1,1,none⟩=false:=zBn hm 1;have mf2:wr.frozen? ⟨w.heap.size+1,2,none⟩=false:=zBn hm 2;have mf3:wr.frozen? ⟨w.heap.size+1,3,none⟩=false:=zBn hm 3;by_cases hlt:j<ms.length
  ·obtain⟨g,rfl,hg,hcells⟩:=hr (fun e=>by rw[e]at hlt;simp at hlt);obtain⟨c0,c1,c2,c3⟩:=z41 ms j hlt;have d0:wr.cell? ⟨g,j*4,none⟩=_:=(hbl.cell (p:=⟨g,j*4,none⟩) hg).trans (hcells _ _ c0);have d1:wr.cell? ⟨g,j*4+1,none⟩=_:=(hbl.cell (p:=⟨g,j*4+1,none⟩) hg).trans (hcells _ _ c1);have d2:wr.cell? ⟨g,j*4+2,none⟩=_:=(hbl.cell (p:=⟨g,j*4+2,none⟩) hg).trans (hcells _ _ c2);have d3:wr.cell? ⟨g,j*4+3,none⟩=_:=(hbl.cell (p:=⟨g,j*4+3,none⟩) hg).trans (hcells _ _ c3);have hS:Hid (memR nm m n (ms[j]::ms.drop (j+1))=memR nm zB6 0 ms):=(by rw[←hR.out,←List.drop_eq_getElem_cons hlt];exact rfl);clear hR c0 c1 c2 c3 hcells hr;generalize ms[j]=x at*;obtain⟨xn,xk,xs,xv⟩:=x;simp only at d0 d1 d2 d3;have hji:(j:Int)<(ms.length:Int):=(by omega);by_cases hx:xn=nm
   ·have hq:(xn==nm)=true:=(by rw[hx];simp);have hE:Hid (memR nm (xn,xk,xs,xv) (n+1) (ms.drop (j+1))=memR nm zB6 0 ms):=(by rw[←hS.out,memR,if_pos hx];exact rfl);clear hS hx;go_wp2;go_roundw
    case rel=>exact⟨j+1,n+1,(xn,xk,xs,xv),by go_num,by go_num,by omega,by omega,hE.out,hm.set (xn,xk,xs,xv),hz.other (by omega) _ _ _ _,(((hbl.setCell (by simp) _).setCell (by simp) _).setCell (by simp) _).setCell (by simp) _⟩
    case measure=>simp[intOf];omega
   ·have hq:(xn==nm)=false:=(by simpa using hx);have hE:Hid (memR nm m n (ms.drop (j+1))=memR nm zB6 0 ms):=(by rw[←hS.out,memR,if_neg hx];exact rfl);clear hS hx;go_wp2;go_roundw
    case rel=>exact⟨j+1,n,m,rfl,by go_num,by omega,by omega,hE.out,hm,hz,hbl⟩
    case measure=>simp[intOf];omega
  ·have hE:Hid (memR nm zB6 0 ms=(m,n)):=(by rw[←hR.out,List.drop_eq_nil_of_le (by omega)];exact rfl);have hji:¬(j:Int)<(ms.length:Int):=(by omega);clear hR;have z0:wr.cell? ⟨w.heap.size,0,none⟩=some (.string ⟨#[]⟩):=(by rw[zBk hz];rfl);have z1:wr.cell? ⟨w.heap.size,1,none⟩=some (.int .u8 0):=(by rw[zBk hz];rfl);have z2:wr.cell? ⟨w.heap.size,2,none⟩=some (.string ⟨#[]⟩):=(by rw[zBk hz];rfl);have z3:wr.cell? ⟨w.heap.size,3,none⟩=some (.int .i64 0):=(by rw[zBk hz];rfl);have zf0:wr.frozen? ⟨w.heap.size,0,none⟩=false:=zBn hz 0;have zf1:wr.frozen? ⟨w.heap.size,1,none⟩=false:=zBn hz 1;have zf2:wr.frozen? ⟨w.heap.size,2,none⟩=false:=zBn hz 2;have zf3:wr.frozen? ⟨w.heap.size,3,none⟩=false:=zBn hz 3;go_wp2;refine bodyPost_ret (v:=.tuple #[zF5 m,.int .i64 (n:Int)]) (by simp[results,results56,go_sem,zF5,z0,z1,z2,z3]) rfl ⟨(((hbl.setCell (by simp) _).setCell (by simp) _).setCell (by simp) _).setCell (by simp) _,by rw[hE.out]⟩
def fitsR (call:Bool):Nat→List RM→Nat
 |n,[]=>n
 |n,x::r=>if fitP x.1 x.2.1 call=true then fitsR call (n+1) r else fitsR call n r
def repR (ms:List RM):List RM→Bool
 | []=>false
 |x::r=>if 1<(memR x.1 zB6 0 ms).2 then true else repR ms r
theorem RRow.at {w wr:World}{o:Option Addr}{ms:List RM}(h:RRow w o ms)(k:Below w.heap.size w wr){j:Nat}(hlt:j<ms.length):
 ∃g,o=some ⟨g,0,none⟩∧g<w.heap.size∧wr.cell? ⟨g,j*4,none⟩=some (.string ⟨(ms[j]).1.toArray⟩)∧wr.cell? ⟨g,j*4+1,none⟩=some (.int .u8 ((ms[j]).2.1:Int))∧
  wr.cell? ⟨g,j*4+2,none⟩=some (.string ⟨(ms[j]).2.2.1.toArray⟩)∧wr.cell? ⟨g,j*4+3,none⟩=some (.int .i64 (ms[j]).2.2.2):=by
 obtain⟨g,h1,hg,hcells⟩:=h (fun e=>by rw[e]at hlt;simp at hlt);obtain⟨c0,c1,c2,c3⟩:=z41 ms j hlt;exact⟨g,h1,hg,(k.cell (p:=⟨g,j*4,none⟩) hg).trans (hcells _ _ c0),(k.cell (p:=⟨g,j*4+1,none⟩) hg).trans (hcells _ _ c1),
  (k.cell (p:=⟨g,j*4+2,none⟩) hg).trans (hcells _ _ c2),(k.cell (p:=⟨g,j*4+3,none⟩) hg).trans (hcells _ _ c3)⟩
theorem z51 (o:Option Addr)(cap:Nat)(ms:List RM)(call:Bool)(w:World)(hr:RRow w o ms)(hl:ms.length≤2000000)(hk:∀m∈ms,m.2.1<256):
 Calls prog 102 #[.slice o ms.length cap,.bool call] w fun e w'=>Below w.heap.size w w'∧e=.returned (.int .i64 (fitsR call 0 ms:Int)):=by
 go_enter func102,ntmps102;go_wp2;go_loopw [5,6] (fun nv i wr=>∃(j n:Nat),nv=.int .i64 (n:Int)∧i=.int .i64 (j:Int)∧j≤ms.length∧n≤j∧fitsR call n (ms.drop j)=fitsR call 0 ms∧Below w.heap.size w wr) (fun _ i _=>ms.length-(intOf i).toNat)
 case atStart=>exact⟨0,0,rfl,rfl,by omega,by omega,rfl,zD⟩
 case round=>
  obtain⟨j,n,rfl,rfl,hj,hnj,HR,hbl⟩:=hrel;have hR:Hid (fitsR call n (ms.drop j)=fitsR call 0 ms):=HR;clear HR;by_cases hlt:j<ms.length
  ·obtain⟨g,rfl,hg,d0,d1,d2,d3⟩:=hr.at hbl hlt;have hS:Hid (fitsR call n (ms[j]::ms.drop (j+1))=fitsR call 0 ms):=(by rw[←hR.out,←List.drop_eq_getElem_cons hlt];exact rfl);have hk':=hk ms[j] (List.getElem_mem hlt);clear hR hr hk;generalize ms[j]=x at*;obtain⟨xn,xk,xs,xv⟩:=x;simp only at d0 d1 d2 d3 hk';have hji:(j:Int)<(ms.length:Int):=(by omega);go_wp2_with fail;refine(zNE ⟨xn.toArray⟩ xk ⟨xs.toArray⟩ xv call _ hk').mono ?_;rintro e w2 ⟨hb2,rfl⟩;have hbl2:=hbl.trans (hb2.mono hbl.size);rw[show(⟨xn.toArray⟩:ByteArray).toList=xn by rw[ByteArray.toList_eq]];cases hf:fitP xn xk call with
   |true=>
     have hE:Hid (fitsR call (n+1) (ms.drop (j+1))=fitsR call 0 ms):=(by rw[←hS.out,fitsR,if_pos hf];exact rfl);clear hS hf;go_wp2;go_roundw
     case rel=>exact⟨j+1,n+1,by go_num,by go_num,by omega,by omega,hE.out,hbl2⟩
     case measure=>simp[intOf];omega
   |false=>
     have hE:Hid (fitsR call n (ms.drop (j+1))=fitsR call 0 ms):=(by rw[←hS.out,fitsR,if_neg (by rw[hf];simp)];exact rfl);clear hS hf;go_wp2;go_roundw
     case rel=>exact⟨j+1,n,rfl,by go_num,by omega,by omega,hE.out,hbl2⟩
     case measure=>simp[intOf];omega
  ·have hE:Hid (fitsR call 0 ms=n):=(by rw[←hR.out,List.drop_eq_nil_of_le (by omega)];exact rfl);have hji:¬(j:Int)<(ms.length:Int):=(by omega);clear hR;go_wp2;go_ret;exact⟨hbl,by rw[hE.out];rfl⟩
theorem z4Q (o:Option Addr)(cap:Nat)(ms:List RM)(w:World)(hr:RRow w o ms)(hl:ms.length≤2000000):
 Calls prog 55 #[.slice o ms.length cap] w fun e w'=>Below w.heap.size w w'∧e=.returned (.bool (repR ms ms)):=by
 go_enter func55,ntmps55;go_wp2;go_loopw [3] (fun i wr=>∃(j:Nat),i=.int .i64 (j:Int)∧j≤ms.length∧repR ms (ms.drop j)=repR ms ms∧Below w.heap.size w wr) (fun i _=>ms.length-(intOf i).toNat)
 case atStart=>exact⟨0,rfl,by omega,rfl,zD⟩
 case round=>
  obtain⟨j,rfl,hj,HR,hbl⟩:=hrel;have hR:Hid (repR ms (ms.drop j)=repR ms ms):=HR;clear HR;by_cases hlt:j<ms.length
  ·have hrr:=hr.below hbl;obtain⟨g,rfl,hg,d0,d1,d2,d3⟩:=hr.at hbl hlt;have hS:Hid (repR ms (ms[j]::ms.drop (j+1))=repR ms ms):=(by rw[←hR.out,←List.drop_eq_getElem_cons hlt];exact rfl);clear hR;generalize ms[j]=x at*;obtain⟨xn,xk,xs,xv⟩:=x;simp only at d0 d1 d2 d3;have hji:(j:Int)<(ms.length:Int):=(by omega);go_wp2_with fail;refine(zAO (some ⟨g,0,none⟩) cap ms xn _ hrr hl).mono ?_;rintro e w2 ⟨hb2,rfl⟩;have hbl2:=hbl.trans (hb2.mono hbl.size);clear hrr hr;generalize hmr:memR xn zB6 0 ms=q at*;obtain⟨⟨m1,m2,m3,m4⟩,c⟩:=q;unfold zF5;by_cases h1:1<c
   ·have hE:Hid (repR ms ms=true):=(by rw[←hS.out,repR];simp only [hmr];rw[if_pos h1];exact rfl);have h1':(1:Int)<(c:Int):=(by omega);clear hS hmr;go_wp2;go_ret;exact⟨hbl2.alloc hbl2.size _,by rw[hE.out];rfl⟩
   ·have hE:Hid (repR ms (ms.drop (j+1))=repR ms ms):=(by rw[←hS.out,repR];simp only [hmr];rw[if_neg h1];exact rfl);have h1':¬(1:Int)<(c:Int):=(by omega);clear hS hmr;go_wp2;go_roundw
    case rel=>exact⟨j+1,by go_num,by omega,hE.out,hbl2.alloc hbl2.size _⟩
    case measure=>simp[intOf];omega
  ·have hE:Hid (repR ms ms=false):=(by rw[←hR.out,List.drop_eq_nil_of_le (by omega)];exact rfl);have hji:¬(j:Int)<(ms.length:Int):=(by omega);clear hR;go_wp2;go_ret;exact⟨hbl,by rw[hE.out];rfl⟩
def z40:List (List UInt8)→List UInt8→List Nat→List (List UInt8)
 |acc,cur,[]=>if cur=[]then acc else acc++[cur]
 |acc,cur,c::t=>if c=10 then z40 (acc++[cur]) [] t else z40 acc (cur++[UInt8.ofNat c]) t
def linesP (l:List Nat):List (List UInt8):=z40 [] [] l
def strCells (l:List (List UInt8)):List Value:=l.map (fun x=>Value.string ⟨x.toArray⟩)
theorem zBt (l:List (List UInt8))(m:List UInt8):strCells (l++[m])=strCells l++[.string ⟨m.toArray⟩]:=by simp[strCells]
theorem strInfo:(prog.info? 9).map (fun i=>(i.zero,i.size,i.bytes))=some (some (.string ⟨#[]⟩),1,16):=by kernel_rfl
theorem zMn {s:ByteArray}{a j:Nat}{cur:List UInt8}(h:s.extract a j=⟨cur.toArray⟩)(ha:a≤j)(hj:j<s.size):s.extract a (j+1)=⟨(cur++[UInt8.ofNat (s[j]).toNat]).toArray⟩:=by
 have e1:=z5M s a (j-a);have e2:=z5M s a (j-a+1);rw[show a+(j-a)=j by omega,h]at e1;rw[show a+(j-a+1)=j+1 by omega]at e2;have e3:cur=zU1 (((lets s).drop a).take (j-a)):=by
  have:=congrArg (fun b:ByteArray=>b.data.toList) e1;simpa using this
 rw[e2,e3];congr 2;have hl:j-a<((lets s).drop a).length:=by rw[List.length_drop,zSQ];omega
 rw[List.take_succ_eq_append_getElem hl];simp only [zU1,List.map_append,List.map_cons,List.map_nil];congr 2;have:=zhG hj;have e4:(lets s)[j]?=some (s[j]).toNat:=by rw[←List.head?_drop,this];rfl
 have e5:((lets s).drop a)[j-a]?=some (s[j]).toNat:=by rw[List.getElem?_drop,show a+(j-a)=j by omega];exact e4
 rw[zC hl]at e5;rw[Option.some.inj e5]
theorem zR5 (s:ByteArray)(a:Nat):s.extract a a=⟨([]:List UInt8).toArray⟩:=by
 have e:=z5M s a 0;simpa [zU1]using e
theorem zBg {s:ByteArray}{a j:Nat}{cur:List UInt8}(h:s.extract a j=⟨cur.toArray⟩)(ha:a≤j)(hj:j≤s.size):cur.length=j-a:=by
 have e1:=z5M s a (j-a);rw[show a+(j-a)=j by omega,h]at e1;have e3:cur=zU1 (((lets s).drop a).take (j-a)):=by
  have:=congrArg (fun b:ByteArray=>b.data.toList) e1;simpa using this
 rw[e3];simp[zU1,zSQ];omega
theorem zHK (w:World)(a:Value)(t:TypeId):∀j u,[a][j]?=some u→(w.alloc (.cells #[a] t)).cell? ((⟨w.heap.size,0,none⟩:Addr).add j)=some u:=by
 intro j u hj
 match j,hj with
 |0,hj=>simp at hj;subst hj;simp[Addr.add]
def zQR (s:ByteArray)(w:World)(e:Ending)(w':World):Prop:=
 Below w.heap.size w w'∧∃v,(linesP (lets s)).length≤s.size∧(∀l∈linesP (lets s),l.length≤s.size)∧w'.ownsRow w.heap.size 9 1 v (linesP (lets s)).length (strCells (linesP (lets s)))∧e=.returned v
theorem z7F (s:ByteArray)(w:World)(hs:s.size≤2000000):
 Calls prog 29 #[.string s] w fun e w'=>zQR s w e w':=by
 go_enter func29,ntmps29;go_wp2;go_loopw [3,4,5] (fun v fr i wr=>∃(j a:Nat) (acc:List (List UInt8)) (cur:List UInt8),fr=.int .i64 (a:Int)∧i=.int .i64 (j:Int)∧j≤s.size∧a≤j∧acc.length≤a∧(∀l∈acc,l.length≤s.size)∧s.extract a j=⟨cur.toArray⟩∧z40 acc cur ((lets s).drop j)=linesP (lets s)∧wr.ownsRow w.heap.size 9 1 v acc.length (strCells acc)∧Below w.heap.size w wr) (fun _ _ i _=>s.size-(intOf i).toNat)
 case atStart=>exact⟨0,0,[],[],rfl,rfl,by omega,by omega,by simp,by simp,zR5 s 0,rfl,World.ownsRow_nil _ _ _ _,zD⟩
 case round=>
  obtain⟨i0,hi,hz0,hz1,hz2⟩:=info_parts strInfo;obtain⟨j,a,acc,cur,rfl,rfl,hjs,haj,hal,hok,hx,HR,hown,hbl⟩:=hrel;have hR:Hid (z40 acc cur ((lets s).drop j)=linesP (lets s)):=HR;clear HR;have hzz:=hbl.size;have hcl:=zBg hx haj hjs;have hrow:=zYv hown;by_cases hin:j<s.size
  ·have hin':(j:Int)<(s.size:Int):=(by omega);have hD:Hid ((lets s).drop j=(s[j]).toNat::(lets s).drop (j+1)):=zhG hin;by_cases h10:(s[j]).toNat=10
   ·have b1:(((s[j]).toNat:Int)==10)=true:=(by simp;omega);have hE:Hid (z40 (acc++[cur]) [] ((lets s).drop (j+1))=linesP (lets s)):=(by rw[←hR.out,hD.out,z40,if_pos h10];exact rfl);have hok':∀l∈acc++[cur],l.length≤s.size:=by
     intro l hl;rcases List.mem_append.1 hl with hl|hl
     ·exact hok l hl
     ·simp at hl;subst hl;omega
    have haj':(a:Int)≤(j:Int):=(by omega);have hjs':(j:Int)≤(s.size:Int):=(by omega);clear hR hD h10 hok;go_wp2_with (at_builtin;refine wpList_append_own _ rfl _ _ 67 rfl w.heap.size 9 i0 (.string ⟨#[]⟩) 1 16 underlying67 hi hz0 hz1 hz2 rfl (by decide) _ _ _ rfl (hown.alloc _) ⟨wr.heap.size,0,none⟩ 1 1 [.string ⟨cur.toArray⟩] rfl rfl ?c1 ?c2 ?c3 ?c4 ?c5 ?_)
    case c1=>exact zHK _ _ _
    case c2=>intro u hu;simp at hu;subst hu;rfl
    case c3=>unfold maxLen;omega
    case c4=>omega
    case c5=>simp;omega
    intro v5 w5 own5 grow5 _;have hb5:Below w.heap.size w w5:=Below.grown' (hbl.alloc (by omega) _) grow5 hrow;rw[←zBt]at own5;have own6:w5.ownsRow w.heap.size 9 1 v5 (acc++[cur]).length (strCells (acc++[cur])):=(by simpa using own5);clear own5 grow5 hrow hown;generalize hacc:acc++[cur]=acc' at*;have hal':acc'.length≤j+1:=(by rw[←hacc];simp;omega);go_wp2;go_roundw
    case rel=>exact⟨j+1,j+1,acc',[],by go_num,by go_num,by omega,by omega,hal',hok',zR5 s (j+1),hE.out,own6,hb5⟩
    case measure=>simp[intOf];omega
   ·have b1:(((s[j]).toNat:Int)==10)=false:=(by simp;omega);have hE:Hid (z40 acc (cur++[UInt8.ofNat (s[j]).toNat]) ((lets s).drop (j+1))=linesP (lets s)):=(by rw[←hR.out,hD.out,z40,if_neg h10];exact rfl);have hx':=zMn hx haj hin;clear hR hD h10;go_wp2;go_roundw
    case rel=>exact⟨j+1,a,acc,_,rfl,by go_num,by omega,by omega,hal,hok,hx',hE.out,hown,hbl⟩
    case measure=>simp[intOf];omega
  ·have hjs2:j=s.size:=(by omega);have hin':¬(j:Int)<(s.size:Int):=(by omega);have hS:Hid (linesP (lets s)=if cur=[]then acc else acc++[cur]):=(by rw[←hR.out,zgM (by omega)];exact rfl);clear hR;by_cases ha:a<s.size
   ·have ha':(a:Int)<(s.size:Int):=(by omega);have hE:Hid (linesP (lets s)=acc++[cur]):=(by rw[hS.out,if_neg (fun e=>by rw[e]at hcl;simp at hcl;omega)];exact rfl);have hok':∀l∈acc++[cur],l.length≤s.size:=by
     intro l hl;rcases List.mem_append.1 hl with hl|hl
     ·exact hok l hl
     ·simp at hl;subst hl;omega
    have haj':(a:Int)≤(s.size:Int):=(by omega);rw[hjs2]at hx;clear hS hok;go_wp2_with (at_builtin;refine wpList_append_own _ rfl _ _ 67 rfl w.heap.size 9 i0 (.string ⟨#[]⟩) 1 16 underlying67 hi hz0 hz1 hz2 rfl (by decide) _ _ _ rfl (hown.alloc _) ⟨wr.heap.size,0,none⟩ 1 1 [.string ⟨cur.toArray⟩] rfl rfl ?c1 ?c2 ?c3 ?c4 ?c5 ?_)
    case c2=>rfl
    case c3=>unfold maxLen;omega
    case c4=>omega
    case c5=>omega
    intro v5 w5 own5 grow5 _;have hb5:Below w.heap.size w w5:=Below.grown' (hbl.alloc (by omega) _) grow5 hrow;rw[←zBt]at own5;have own6:w5.ownsRow w.heap.size 9 1 v5 (acc++[cur]).length (strCells (acc++[cur])):=(by simpa using own5);clear own5 grow5 hrow hown;have hal':(acc++[cur]).length≤s.size:=(by simp;omega);go_wp2;go_ret;exact⟨hb5,v5,by rw[hE.out];exact hal',by rw[hE.out];exact hok',by rw[hE.out];exact own6,rfl⟩
   ·have ha':¬(a:Int)<(s.size:Int):=(by omega);have hE:Hid (linesP (lets s)=acc):=(by rw[hS.out,if_pos (List.length_eq_zero_iff.1 (by omega))];exact rfl);clear hS;go_wp2;go_ret;exact⟨hbl,u3,by rw[hE.out];omega,by rw[hE.out];exact hok,by rw[hE.out];exact hown,rfl⟩
def zfp:List RM→List Pc→Option (List RM)
 |acc,[]=>some acc
 |acc,[k,c,v]=>if(valP v).2.2.2=true∧k.1=34∧c.1=58 then some (acc++[mkRM k v])else none
 |acc,k::c::v::e::r=>if(valP v).2.2.2=true∧k.1=34∧c.1=58∧e.1=44 then zfp (acc++[mkRM k v]) r else none
 |_,_=>none
def zTi (ps:List Pc):List Pc:=(ps.drop 1).take (ps.length-2)
def objI (ps:List Pc):Option (List RM):=
 if ps.length<2 then none else if(ps.headD (0,[])).1≠123 then none else if((ps.drop (ps.length-1)).headD (0,[])).1≠125 then none
 else if ps.length=2 then some []else if(ps.length-2)%4≠3 then none else zfp [] (zTi ps)
theorem zYi (ps:List Pc)(i:Nat)(h:i<ps.length):(z9c ps)[i*2]?=some (.int .u8 ((ps[i]).1:Int))∧(z9c ps)[i*2+1]?=some (.string ⟨(ps[i]).2.toArray⟩):=by
 induction ps generalizing i with
 |nil=>simp at h
 |cons m r ih=>
   have e:z9c (m::r)=zEN m++z9c r:=(by simp[z9c]);have hl:(zEN m).length=2:=rfl;rw[e];cases i with
   |zero=>simp[zEN]
   |succ i=>
     obtain⟨a,b⟩:=ih i (by simpa using h);refine⟨?_,?_⟩
     ·rw[List.getElem?_append_right (by omega),hl,show(i+1)*2-2=i*2 by omega,a];simp
     ·rw[List.getElem?_append_right (by omega),hl,show(i+1)*2+1-2=i*2+1 by omega,b];simp
theorem zdd {w:World}{base g cap n:Nat}{xs:List Value}(h:w.ownsRow base 226 2 (.slice (some ⟨g,0,none⟩) n cap) n xs):
 ∀j u,xs[j]?=some u→w.cell? ⟨g,j,none⟩=some u:=by
 intro j u hj;have:=h.cells (g:=g) rfl j u hj;by_cases h0:j=0
 ·subst h0;simpa [Addr.add]using this
 ·simpa [Addr.add,h0]using this
def rmOk (m:RM):Prop:=m.1.length≤8000000∧m.2.1<256∧m.2.2.1.length≤8000000
def zQd (s:ByteArray)(w:World)(e:Ending)(w':World):Prop:=
 Below w.heap.size w w'∧((∃ms o cap,(zvF (lets s)).bind objI=some ms∧ms.length≤s.size∧(∀m∈ms,rmOk m)∧RRow w' o ms∧e=.returned (.tuple #[.slice o ms.length cap,.bool true]))∨
  ((zvF (lets s)).bind objI=none∧e=.returned (.tuple #[.slice none 0 0,.bool false])))
theorem zGF:(prog.info? 123).map (fun i=>(i.zero,i.size,i.bytes))=some (some (.agg #[.string ⟨#[]⟩,.int .u8 0,.string ⟨#[]⟩,.int .i64 0]),4,48):=by kernel_rfl
theorem z3BS (ps:List Pc)(j:Nat)(h:j+2<ps.length):(zTi ps).drop j=ps[j+1]::(zTi ps).drop (j+1):=by
 have hl:j<(zTi ps).length:=by simp[zTi];omega
 rw[List.drop_eq_getElem_cons hl];congr 1;simp[zTi]
theorem zjh (ps:List Pc)(j:Nat)(h:j+4<ps.length):(zTi ps).drop j=ps[j+1]::ps[j+2]::ps[j+3]::(zTi ps).drop (j+3):=by
 rw[z3BS ps j (by omega),z3BS ps (j+1) (by omega),z3BS ps (j+2) (by omega)]
theorem zZx (mark:Nat)(s:ByteArray):(zLi mark s).1<256∧(zLi mark s).2.1.size≤s.size:=by
 unfold zLi;have h0:(⟨#[]⟩:ByteArray).size≤s.size:=Nat.zero_le _;split
 ·exact⟨by omega,Nat.le_refl _⟩
 ·split
  ·exact⟨by omega,h0⟩
  ·split
   ·exact⟨by omega,h0⟩
   ·split
    ·exact⟨by omega,h0⟩
    ·split
     ·exact⟨by omega,h0⟩
     ·exact⟨by omega,h0⟩
theorem zEr {acc:List RM}{k c v:Pc}{r:List Pc}(h:¬((valP v).2.2.2=true∧k.1=34∧c.1=58)):zfp acc (k::c::v::r)=none:=by
 cases r with
 |nil=>rw[zfp,if_neg h]
 |cons e r=>rw[zfp,if_neg (fun hh=>h ⟨hh.1,hh.2.1,hh.2.2.1⟩)]
theorem z1Y {acc:List RM}{k c v e:Pc}{r:List Pc}(h:e.1≠44):zfp acc (k::c::v::e::r)=none:=by
 rw[zfp,if_neg (fun hh=>h hh.2.2.2)]
theorem z1h (l:List RM)(m:RM):zQE (l++[m])=zQE l++zqV m:=by simp[zQE]
theorem zNP {W:World}{a:Addr}{v:Value}(o:Obj)(hb:a.block<W.heap.size)(h:W.cell? a=some v):(W.alloc o).cell? a=some v:=(((Below.refl W.heap.size W).alloc zG o).cell hb).trans h
theorem zzD {w:World}{base:Nat}{e:TypeId}{size:Nat}{v:Value}{n:Nat}{xs:List Value}(h:w.ownsRow base e size v n xs):(v=.slice none 0 0∧n=0)∨∃g cap,v=.slice (some ⟨g,0,none⟩) n cap∧n≤cap∧base≤g∧g<w.heap.size:=by
 rcases h.2 with ⟨h1,h2⟩|⟨g,cap,cur,h1,hbg,hg,hnc,_⟩
 ·exact Or.inl ⟨h1,h2⟩
 ·exact Or.inr ⟨g,cap,h1,hnc,hbg,zBq hg⟩
theorem zws (s:ByteArray)(w:World)(hs:s.size≤2000000):
 Calls prog 54 #[.string s] w fun e w'=>zQd s w e w':=by
 go_enter func54,ntmps54;go_wp2_with fail;refine(zGy s _ hs).mono ?_;rintro e w1 ⟨hb1,⟨ps,v,hp,hpl,hok,hown,rfl⟩|⟨hp,rfl⟩⟩
 ·rcases zzD hown with ⟨rfl,hn0⟩|⟨g,cap,rfl,hcap,hgb,hgw⟩
  ·have hE:Hid ((zvF (lets s)).bind objI=none):=by
    rw[hp,List.length_eq_zero_iff.1 hn0];exact rfl
   clear hp hown hok;go_wp2;go_ret2;exact⟨hb1,Or.inr ⟨hE.out,rfl⟩⟩
  ·have hcells:=zdd hown;clear hown;have hB:Hid ((zvF (lets s)).bind objI=objI ps):=(by rw[hp];exact rfl);clear hp;by_cases h2:ps.length<2
   ·have hE:Hid ((zvF (lets s)).bind objI=none):=(by rw[hB.out,objI,if_pos h2];exact rfl);have h2':(ps.length:Int)<2:=(by omega);clear hB hcells;go_wp2;go_ret2;exact⟨hb1,Or.inr ⟨hE.out,rfl⟩⟩
   ·have h2':¬(ps.length:Int)<2:=(by omega);obtain⟨x0,x1⟩:=zYi ps 0 (by omega);obtain⟨y0,y1⟩:=zYi ps (ps.length-1) (by omega);have c0:=hcells _ _ x0;have c1:=hcells _ _ x1;have d0:=hcells _ _ y0;have d1:=hcells _ _ y1;clear x0 x1 y0 y1;rw[Nat.zero_mul]at c0 c1;by_cases h123:(ps[0]).1=123
    ·by_cases h125:(ps[ps.length-1]).1=125
     ·have hC:Hid ((zvF (lets s)).bind objI=if ps.length=2 then some []else if(ps.length-2)%4≠3 then none else zfp [] (zTi ps)):=by
       rw[hB.out,objI,if_neg h2,if_neg (by rw[show ps.headD (0,[])=ps[0] by cases ps with|nil=>simp at h2|cons a t=>rfl];simpa using h123),if_neg (by rw[List.drop_eq_getElem_cons (show ps.length-1<ps.length by omega)];exact fun hh=>hh h125)];exact rfl
      have q1:(((ps[0]).1:Int) != 123)=false:=(by simp;omega);have q2:(((ps[ps.length-1]).1:Int) != 125)=false:=(by simp;omega);clear hB h123 h125;generalize ps[ps.length-1]=z at*;generalize ps[0]=z0 at*;have hln:(((ps.length:Int)-1).toNat)=ps.length-1:=(by omega);have hl1:(0:Int)≤(ps.length:Int)-1:=(by omega);have hl2:(ps.length:Int)-1<(ps.length:Int):=(by omega);have hl3:(1:Int)≤(ps.length:Int)-1:=(by omega);have hl4:(ps.length:Int)-1≤(cap:Int):=(by omega);by_cases h2e:ps.length=2
      ·have hE:Hid ((zvF (lets s)).bind objI=some []):=(by rw[hC.out,if_pos h2e];exact rfl);rw[h2e]at d0 d1;have d0':w1.cell? ⟨g,2,none⟩=some (.int .u8 (z.1:Int)):=d0;have d1':w1.cell? ⟨g,3,none⟩=some (.string ⟨z.2.toArray⟩):=d1;have hcp:(1:Int)≤(cap:Int):=(by omega);clear hC d0 d1 hcells hok;go_wp2;go_ret2;exact⟨hb1,Or.inl ⟨[],none,0,hE.out,by simp,by simp,fun h=>absurd rfl h,rfl⟩⟩
      ·have r1:(((ps.length-1-1:Nat):Int)==0)=false:=(by simp;omega);by_cases h3:(ps.length-2)%4=3
       ·have hM:Hid ((zvF (lets s)).bind objI=zfp [] (zTi ps)):=(by rw[hC.out,if_neg h2e,if_neg (fun hh=>hh h3)];exact rfl);have r2:(((ps.length-1-1:Nat):Int)%4 != 3)=false:=(by simp;omega);have hz1w:=hb1.size;clear hC;go_wp2;go_loopw [6,7] (fun v i wr=>∃(j:Nat) (acc:List RM),i=.int .i64 (j:Int)∧(j=ps.length-1∨(j<ps.length-2∧(ps.length-2-j)%4=3))∧acc.length≤j∧(∀m∈acc,rmOk m)∧zfp acc ((zTi ps).drop j)=(zvF (lets s)).bind objI∧wr.ownsRow w1.heap.size 123 4 v acc.length (zQE acc)∧Below w1.heap.size w1 wr) (fun _ i _=>ps.length-(intOf i).toNat)
        case atStart=>exact⟨0,[],rfl,Or.inr ⟨by omega,by omega⟩,by simp,by simp,hM.out.symm,World.ownsRow_nil _ _ _ _,zD⟩
        case round=>
         obtain⟨i0,hi,hz0,hz1,hz2⟩:=info_parts zGF;obtain⟨j,acc,rfl,hjj,hal,hmk,HR,hown,hbl⟩:=hrel;have hR:Hid (zfp acc ((zTi ps).drop j)=(zvF (lets s)).bind objI):=HR;clear HR hM;have hzz:=hbl.size;have hrow:=zYv hown;by_cases hjl:j<ps.length-2
         ·have hjl':(j:Int)<((ps.length-1-1:Nat):Int):=(by omega);have hmod:(ps.length-2-j)%4=3:=(by omega);obtain⟨⟨kn,ks⟩,⟨cn,cs⟩,⟨vm,vt⟩,hsp,hr4,okk,okv,k0,k1,e0,e1,f0,f1⟩:∃kk cc vv:Pc,Hid ((zTi ps).drop j=kk::cc::vv::(zTi ps).drop (j+3))∧
           Hid (j+3=ps.length-2∨∃ee:Pc,j+4<ps.length-2∧(zTi ps).drop (j+3)=ee::(zTi ps).drop (j+4)∧w1.cell? ⟨g,2+(j+3)*2,none⟩=some (.int .u8 (ee.1:Int))∧w1.cell? ⟨g,2+(j+3)*2+1,none⟩=some (.string ⟨ee.2.toArray⟩))∧
           pcOk kk∧pcOk vv∧
           wr.cell? ⟨g,2+j*2,none⟩=some (.int .u8 (kk.1:Int))∧wr.cell? ⟨g,2+j*2+1,none⟩=some (.string ⟨kk.2.toArray⟩)∧
           wr.cell? ⟨g,2+(j+1)*2,none⟩=some (.int .u8 (cc.1:Int))∧wr.cell? ⟨g,2+(j+1)*2+1,none⟩=some (.string ⟨cc.2.toArray⟩)∧
           wr.cell? ⟨g,2+(j+2)*2,none⟩=some (.int .u8 (vv.1:Int))∧wr.cell? ⟨g,2+(j+2)*2+1,none⟩=some (.string ⟨vv.2.toArray⟩):=by
           obtain⟨x0,x1⟩:=zYi ps (j+1) (by omega);obtain⟨y0,y1⟩:=zYi ps (j+2) (by omega);obtain⟨v0,v1⟩:=zYi ps (j+3) (by omega);refine⟨ps[j+1],ps[j+2],ps[j+3],zjh ps j (by omega),?_,hok _ (List.getElem_mem _),hok _ (List.getElem_mem _),
            (hbl.cell (p:=⟨g,2+j*2,none⟩) hgw).trans (by rw[show 2+j*2=(j+1)*2 by omega];exact hcells _ _ x0),
            (hbl.cell (p:=⟨g,2+j*2+1,none⟩) hgw).trans (by rw[show 2+j*2+1=(j+1)*2+1 by omega];exact hcells _ _ x1),
            (hbl.cell (p:=⟨g,2+(j+1)*2,none⟩) hgw).trans (by rw[show 2+(j+1)*2=(j+2)*2 by omega];exact hcells _ _ y0),
            (hbl.cell (p:=⟨g,2+(j+1)*2+1,none⟩) hgw).trans (by rw[show 2+(j+1)*2+1=(j+2)*2+1 by omega];exact hcells _ _ y1),
            (hbl.cell (p:=⟨g,2+(j+2)*2,none⟩) hgw).trans (by rw[show 2+(j+2)*2=(j+3)*2 by omega];exact hcells _ _ v0),
            (hbl.cell (p:=⟨g,2+(j+2)*2+1,none⟩) hgw).trans (by rw[show 2+(j+2)*2+1=(j+3)*2+1 by omega];exact hcells _ _ v1)⟩
           by_cases hlast:j+3=ps.length-2
           ·exact Or.inl hlast
           ·have hj4:j+4<ps.length-2:=(by omega);obtain⟨u0,u1⟩:=zYi ps (j+4) (by omega);exact Or.inr ⟨ps[j+4],hj4,z3BS ps (j+3) (by omega),by rw[show 2+(j+3)*2=(j+4)*2 by omega];exact hcells _ _ u0,by rw[show 2+(j+3)*2+1=(j+4)*2+1 by omega];exact hcells _ _ u1⟩
          simp only at k0 k1 e0 e1 f0 f1;have i2:((j:Int)+2)<((ps.length-1-1:Nat):Int):=(by omega);have n2:((j:Int)+2).toNat=j+2:=(by omega);have p2:(0:Int)≤(j:Int)+2:=(by omega);clear hcells hok c0 c1 d0 d1 q1 q2 r1 r2 hln hl1 hl2 hl3 hl4;go_wp2_with fail;refine(z4Z vm ⟨vt.toArray⟩ _ (by show vt.toArray.size≤9000000;have:vt.length≤8000000:=okv.2;simp;omega) okv.1).mono ?_;rintro e w2 ⟨hb2,rfl⟩;have hvk:=zZx vm ⟨vt.toArray⟩;have hbl2:Below w1.heap.size w1 w2:=hbl.trans (hb2.mono hbl.size);have hzz2:=hbl2.size;have own2:=zzF hown (Kept.of_below (S:=[]) hb2) (by simp);have hgr:g<wr.heap.size:=(by omega);have hg2:g<w2.heap.size:=(by omega);replace k0:=(hb2.cell (p:=⟨g,2+j*2,none⟩) hgr).trans k0;replace k1:=(hb2.cell (p:=⟨g,2+j*2+1,none⟩) hgr).trans k1;replace e0:=(hb2.cell (p:=⟨g,2+(j+1)*2,none⟩) hgr).trans e0;replace e1:=(hb2.cell (p:=⟨g,2+(j+1)*2+1,none⟩) hgr).trans e1;have hvp:Hid (∀x y z u,zLi vm ⟨vt.toArray⟩=(x,⟨y⟩,z,u)→valP (vm,vt)=(x,y.toList,z,u)):=by
           intro x y z u hh;unfold valP;rw[hh]
          generalize hq:zLi vm ⟨vt.toArray⟩=q at*;obtain⟨vk,⟨va⟩,vn,vg⟩:=q;obtain⟨vl,rfl⟩:∃vl:List UInt8,va=vl.toArray:=⟨va.toList,by simp⟩;have hV:Hid (valP (vm,vt)=(vk,vl,vn,vg)):=(by have:=hvp.out _ _ _ _ rfl;simp only at this;exact this);have hrmk:rmOk (ks,vk,vl,vn):=⟨okk.2,hvk.1,by
           have h9:vl.toArray.size≤vt.toArray.size:=hvk.2;have h8:vt.length≤8000000:=okv.2;show vl.length≤8000000;simp at h9;omega⟩
          have hMk:mkRM (kn,ks) (vm,vt)=(ks,vk,vl,vn):=(by unfold mkRM;rw[hV.out]);clear f0 f1 hown hvp hq hvk okk okv;unfold zAj rMem;dsimp only;replace k0:=zNP (.cells #[.string ⟨#[]⟩,.int .u8 (vk:Int),.string ⟨vl.toArray⟩,.int .i64 vn] 123) hg2 k0;replace k1:=zNP (.cells #[.string ⟨#[]⟩,.int .u8 (vk:Int),.string ⟨vl.toArray⟩,.int .i64 vn] 123) hg2 k1;replace e0:=zNP (.cells #[.string ⟨#[]⟩,.int .u8 (vk:Int),.string ⟨vl.toArray⟩,.int .i64 vn] 123) hg2 e0;replace e1:=zNP (.cells #[.string ⟨#[]⟩,.int .u8 (vk:Int),.string ⟨vl.toArray⟩,.int .i64 vn] 123) hg2 e1;cases vg with
          |false=>
            have hE:Hid ((zvF (lets s)).bind objI=none):=by
             rw[←hR.out,hsp.out,zEr (fun hh=>by rw[hV.out]at hh;exact absurd hh.1 (by simp))];exact rfl
            clear hR hsp hV hr4 hMk hrmk;go_wp2;go_ret2;exact⟨hb1.trans ((hbl2.alloc (by omega) _).mono hz1w),Or.inr ⟨hE.out,rfl⟩⟩
          |true=>
            have i1:((j:Int)+1)<((ps.length-1-1:Nat):Int):=(by omega);have n1:((j:Int)+1).toNat=j+1:=(by omega);have p1:(0:Int)≤(j:Int)+1:=(by omega);by_cases hk34:kn=34
            ·have s1:((kn:Int) != 34)=false:=(by simp;omega);by_cases hc58:cn=58
             ·have s2:((cn:Int) != 58)=false:=(by simp;omega);have n3:((j:Int)+3).toNat=j+3:=(by omega);have p3:(0:Int)≤(j:Int)+3:=(by omega);have hcase:(¬((j:Int)+3)<((ps.length-1-1:Nat):Int)∧j+3=ps.length-2∧Hid (zfp (acc++[(ks,vk,vl,vn)]) ((zTi ps).drop (j+4))=(zvF (lets s)).bind objI))∨
               (∃(c4:Nat) (t4:List UInt8),((j:Int)+3)<((ps.length-1-1:Nat):Int)∧(w2.alloc (.cells #[.string ⟨#[]⟩,.int .u8 (vk:Int),.string ⟨vl.toArray⟩,.int .i64 vn] 123)).cell? ⟨g,2+(j+3)*2,none⟩=some (.int .u8 (c4:Int))∧(w2.alloc (.cells #[.string ⟨#[]⟩,.int .u8 (vk:Int),.string ⟨vl.toArray⟩,.int .i64 vn] 123)).cell? ⟨g,2+(j+3)*2+1,none⟩=some (.string ⟨t4.toArray⟩)∧
                ((((c4:Int) != 44)=true∧Hid ((zvF (lets s)).bind objI=none))∨(((c4:Int) != 44)=false∧j+4<ps.length-2∧Hid (zfp (acc++[(ks,vk,vl,vn)]) ((zTi ps).drop (j+4))=(zvF (lets s)).bind objI)))):=by
               have hvt:(valP (vm,vt)).2.2.2=true:=(by rw[hV.out]);rcases hr4.out with hlast|⟨⟨en,es⟩,hj4,hd4,u0,u1⟩
               ·left;refine⟨by omega,hlast,?_⟩;show _=_;rw[←hMk,←hR.out,hsp.out,List.drop_eq_nil_of_le (show(zTi ps).length≤j+4 by simp[zTi];omega),List.drop_eq_nil_of_le (show(zTi ps).length≤j+3 by simp[zTi];omega),zfp,zfp,if_pos ⟨hvt,hk34,hc58⟩]
               ·right;refine⟨en,es,by omega,zNP _ hg2 ((hbl2.cell (p:=⟨g,2+(j+3)*2,none⟩) hgw).trans u0),zNP _ hg2 ((hbl2.cell (p:=⟨g,2+(j+3)*2+1,none⟩) hgw).trans u1),?_⟩;by_cases h44:en=44
                ·right;refine⟨by simp;omega,hj4,?_⟩;show _=_;rw[←hMk,←hR.out,hsp.out,hd4,zfp,if_pos ⟨hvt,hk34,hc58,h44⟩]
                ·left;refine⟨by simp;omega,?_⟩;show _=_;rw[←hR.out,hsp.out,hd4,z1Y h44]
              clear hR hsp hV hk34 hc58 hMk hr4;rcases hcase with ⟨i3,hl3,hE⟩|⟨c4,t4,i3,u0,u1,⟨s4,hE⟩|⟨s4,hl3,hE⟩⟩
              ·have i3d:decide (((j:Int)+3)<((ps.length-1-1:Nat):Int))=false:=(by simp only [decide_eq_false_iff_not];exact i3);clear i3;have hrow2:=zYv own2;go_wp2_with (at_builtin;refine wpList_append_own _ rfl _ _ 118 rfl w1.heap.size 123 i0 (.agg #[.string ⟨#[]⟩,.int .u8 0,.string ⟨#[]⟩,.int .i64 0]) 4 48 underlying118 hi hz0 hz1 hz2 rfl (by decide) _ _ _ rfl ((own2.alloc _).alloc _) ⟨w2.heap.size+1,0,none⟩ 1 1 (zqV (ks,vk,vl,vn)) rfl rfl ?c1 ?c2 ?c3 ?c4 ?c5 ?_)
               case c1=>
                have:=zri (w2.alloc (.cells #[.string ⟨ks.toArray⟩,.int .u8 (vk:Int),.string ⟨vl.toArray⟩,.int .i64 vn] 123)) (.string ⟨ks.toArray⟩) (.int .u8 (vk:Int)) (.string ⟨vl.toArray⟩) (.int .i64 vn) 123;simpa [zqV]using this
               case c2=>
                intro u hu;simp[zqV]at hu;rcases hu with rfl|rfl|rfl|rfl<;>rfl
               case c3=>unfold maxLen;omega
               case c4=>omega
               case c5=>simp;omega
               intro v5 w5 own5 grow5 _;have hb5:Below w1.heap.size w1 w5:=Below.grown' ((hbl2.alloc (by omega) _).alloc (by simp;omega) _) grow5 hrow2;rw[←z1h]at own5;have own6:w5.ownsRow w1.heap.size 123 4 v5 (acc++[(ks,vk,vl,vn)]).length (zQE (acc++[(ks,vk,vl,vn)])):=(by simpa using own5);have hmk':∀m∈acc++[(ks,vk,vl,vn)],rmOk m:=by
                intro m hm;rcases List.mem_append.1 hm with hm|hm
                ·exact hmk m hm
                ·simp at hm;subst hm;exact hrmk
               have hal':(acc++[(ks,vk,vl,vn)]).length≤j+4:=(by simp;omega);clear own5 grow5 hrow2 own2 hmk;generalize acc++[(ks,vk,vl,vn)]=acc' at*;go_wp2;go_roundw
               case rel=>exact⟨j+4,acc',by go_num,by omega,hal',hmk',hE.out,own6,hb5⟩
               case measure=>simp[intOf];omega
              ·clear hrmk;go_wp2;go_ret2;exact⟨hb1.trans ((hbl2.alloc (by omega) _).mono hz1w),Or.inr ⟨hE.out,rfl⟩⟩
              ·skip
               have hrow2:=zYv own2;go_wp2_with (at_builtin;refine wpList_append_own _ rfl _ _ 118 rfl w1.heap.size 123 i0 (.agg #[.string ⟨#[]⟩,.int .u8 0,.string ⟨#[]⟩,.int .i64 0]) 4 48 underlying118 hi hz0 hz1 hz2 rfl (by decide) _ _ _ rfl ((own2.alloc _).alloc _) ⟨w2.heap.size+1,0,none⟩ 1 1 (zqV (ks,vk,vl,vn)) rfl rfl ?c1 ?c2 ?c3 ?c4 ?c5 ?_)
               case c1=>
                have:=zri (w2.alloc (.cells #[.string ⟨ks.toArray⟩,.int .u8 (vk:Int),.string ⟨vl.toArray⟩,.int .i64 vn] 123)) (.string ⟨ks.toArray⟩) (.int .u8 (vk:Int)) (.string ⟨vl.toArray⟩) (.int .i64 vn) 123;simpa [zqV]using this
               case c2=>
                intro u hu;simp[zqV]at hu;rcases hu with rfl|rfl|rfl|rfl<;>rfl
               case c3=>unfold maxLen;omega
               case c4=>omega
               case c5=>simp;omega
               intro v5 w5 own5 grow5 _;have hb5:Below w1.heap.size w1 w5:=Below.grown' ((hbl2.alloc (by omega) _).alloc (by simp;omega) _) grow5 hrow2;rw[←z1h]at own5;have own6:w5.ownsRow w1.heap.size 123 4 v5 (acc++[(ks,vk,vl,vn)]).length (zQE (acc++[(ks,vk,vl,vn)])):=(by simpa using own5);have hmk':∀m∈acc++[(ks,vk,vl,vn)],rmOk m:=by
                intro m hm;rcases List.mem_append.1 hm with hm|hm
                ·exact hmk m hm
                ·simp at hm;subst hm;exact hrmk
               have hal':(acc++[(ks,vk,vl,vn)]).length≤j+4:=(by simp;omega);clear own5 grow5 hrow2 own2 hmk;generalize acc++[(ks,vk,vl,vn)]=acc' at*;go_wp2;go_roundw
               case rel=>exact⟨j+4,acc',by go_num,by omega,hal',hmk',hE.out,own6,hb5⟩
               case measure=>simp[intOf];omega
             ·have s2:((cn:Int) != 58)=true:=(by simp;omega);have hE:Hid ((zvF (lets s)).bind objI=none):=by
               rw[←hR.out,hsp.out,zEr (fun hh=>hc58 hh.2.2)];exact rfl
              clear hR hsp hV hr4 hMk hrmk;go_wp2;go_ret2;exact⟨hb1.trans ((hbl2.alloc (by omega) _).mono hz1w),Or.inr ⟨hE.out,rfl⟩⟩
            ·have s1:((kn:Int) != 34)=true:=(by simp;omega);have hE:Hid ((zvF (lets s)).bind objI=none):=by
              rw[←hR.out,hsp.out,zEr (fun hh=>hk34 hh.2.1)];exact rfl
             clear hR hsp hV hr4 hMk hrmk;go_wp2;go_ret2;exact⟨hb1.trans ((hbl2.alloc (by omega) _).mono hz1w),Or.inr ⟨hE.out,rfl⟩⟩
         ·have hjn:j=ps.length-1:=(by omega);have hE:Hid ((zvF (lets s)).bind objI=some acc):=by
           rw[←hR.out,List.drop_eq_nil_of_le (by simp[zTi];omega)];exact rfl
          have hjl':¬(j:Int)<((ps.length-1-1:Nat):Int):=(by omega);clear hR;rcases zzD hown with ⟨rfl,hn0⟩|⟨g5,cap5,rfl,hcap5,hgb5,hgw5⟩
          all_goals
           go_wp2;go_ret2
          ·exact⟨hb1.trans (hbl.mono hz1w),Or.inl ⟨acc,none,0,hE.out,by omega,hmk,fun h=>absurd (List.length_eq_zero_iff.1 hn0) h,by rw[hn0];rfl⟩⟩
          ·refine⟨hb1.trans (hbl.mono hz1w),Or.inl ⟨acc,_,cap5,hE.out,by omega,hmk,fun _=>⟨g5,rfl,hgw5,?_⟩,rfl⟩⟩;intro i u hu;have:=hown.cells (g:=g5) rfl i u hu;by_cases h0:i=0
           ·subst h0;simpa [Addr.add]using this
           ·simpa [Addr.add,h0]using this
       ·have hE:Hid ((zvF (lets s)).bind objI=none):=(by rw[hC.out,if_neg h2e,if_pos h3];exact rfl);have r2:(((ps.length-1-1:Nat):Int)%4 != 3)=true:=(by simp;omega);clear hC hcells hok;go_wp2;go_ret2;exact⟨hb1,Or.inr ⟨hE.out,rfl⟩⟩
     ·have hE:Hid ((zvF (lets s)).bind objI=none):=by
       rw[hB.out,objI,if_neg h2,if_neg (by rw[show ps.headD (0,[])=ps[0] by cases ps with|nil=>simp at h2|cons a t=>rfl];simpa using h123),if_pos (by rw[List.drop_eq_getElem_cons (show ps.length-1<ps.length by omega)];exact h125)];exact rfl
      have q1:(((ps[0]).1:Int) != 123)=false:=(by simp;omega);have q2:(((ps[ps.length-1]).1:Int) != 125)=true:=(by simp;omega);clear hB h123 h125;generalize ps[ps.length-1]=z at*;generalize ps[0]=z0 at*;have hln:(((ps.length:Int)-1).toNat)=ps.length-1:=(by omega);have hl1:(0:Int)≤(ps.length:Int)-1:=(by omega);have hl2:(ps.length:Int)-1<(ps.length:Int):=(by omega);go_wp2;go_ret2;exact⟨hb1,Or.inr ⟨hE.out,rfl⟩⟩
    ·have hE:Hid ((zvF (lets s)).bind objI=none):=by
      rw[hB.out,objI,if_neg h2,if_pos (by rw[show ps.headD (0,[])=ps[0] by cases ps with|nil=>simp at h2|cons a t=>rfl];exact h123)];exact rfl
     have q1:(((ps[0]).1:Int) != 123)=true:=(by simp;omega);have hl0:(0:Int)<(ps.length:Int):=(by omega);clear hB h123;generalize ps[0]=z0 at*;go_wp2;go_ret2;exact⟨hb1,Or.inr ⟨hE.out,rfl⟩⟩
 ·have hE:Hid ((zvF (lets s)).bind objI=none):=by rw[hp];exact rfl
  clear hp;go_wp2;go_ret2;exact⟨hb1,Or.inr ⟨hE.out,rfl⟩⟩
end Go.Proofs.YtbbkihekjdffpaaGreatDoor
