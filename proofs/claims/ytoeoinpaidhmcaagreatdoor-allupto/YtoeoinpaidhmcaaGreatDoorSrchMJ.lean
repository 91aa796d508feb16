/- Several texts in one. -/
import Derived.Test.YtoeoinpaidhmcaaGreatDoorSrchZZ
set_option maxHeartbeats 4000000
set_option maxRecDepth 100000
namespace Go.Proofs.YtoeoinpaidhmcaaGreatDoor.srch
open Tryz
open Go.RowKit Go.Shelf
open Go.Sort (swp size_swp grow grow_grow grow_empty alloc_eq_grow size_grow HoldsK flatK size_flatK get_flatK putRowK size_putRowK)
theorem z5L (l:List Hap):(hapRow l).length=l.length*11:=by
 induction l with
 |nil=>rfl
 |cons o r ih=>
   rw[show hapRow (o::r)=hapCells o++hapRow r from rfl,zJ,ih,List.length_cons];show 11+r.length*11=_;omega
theorem zTx (a:List Hap)(i:Nat)(h:i<a.length):∀c,c<11→(hapRow a)[i*11+c]?=(hapCells a[i])[c]?:=by
 induction a generalizing i with
 |nil=>simp at h
 |cons o r ih=>
   intro c d;have e:hapRow (o::r)=hapCells o++hapRow r:=(by simp[hapRow]);have b:(hapCells o).length=11:=rfl;rw[e];cases i with
   |zero=>simp only [Nat.zero_mul,Nat.zero_add,List.getElem_cons_zero];rw[List.getElem?_append_left (by omega)]
   |succ i=>
     rw[List.getElem?_append_right (by omega),b,show(i+1)*11+c-11=i*11+c by omega,ih i (by simpa using h) c d];rfl
def HAt (w:World)(oa:Option Addr)(l:List Hap):Prop:=l≠[]→∃g,oa=some ⟨g,0,none⟩∧g<w.heap.size∧∀j u,(hapRow l)[j]?=some u→w.cell? ⟨g,j,none⟩=some u
def mgC (a b:Hap):Int:=cmpI a.1 b.1
def mgO (ops:List Hap):List Hap:=(zjN (ltOf mgC) ops.toArray).toList
theorem zzV (a:List Hap):(mgO a).length=a.length:=by
 unfold mgO;have:=(zUI (lt:=ltOf mgC) (p:=fun _=>True) (d:=a.toArray) (fun _=>trivial)).2;simpa using this
theorem z2M {p:Hap→Prop}(a:List Hap)(g:p default)(h:∀o∈a,p o):∀o∈mgO a,p o:=by
 have d:AllP p a.toArray:=by
  intro i;by_cases b:i<a.length
  ·rw[getElem!_pos _ _ (by simpa using b)];exact h _ (by simp)
  ·rw[getElem!_neg _ _ (by simpa using b)];exact g
 have j:=(zUI (lt:=ltOf mgC) d).1;intro o e;obtain⟨i,b,rfl⟩:=List.getElem_of_mem e;have:=j i;unfold mgO at b;rw[getElem!_pos _ _ (by simpa using b)]at this;simpa [mgO]using this
theorem zsW (o:Hap):(hapCells o).length=11:=rfl
theorem z5X (o:Hap):∀v∈hapCells o,v.oneCell'=true:=by
 intro u h;simp[hapCells,opvCells]at h;rcases h with rfl|rfl|rfl|rfl|rfl|rfl|rfl|rfl|rfl|rfl|rfl<;>rfl
theorem zw5 (blk b a:Nat)(w:World):CmpLays prog 133 #[] hapCells 11 mgC blk b a w:=by
 intro m g d _ x y;refine(zYc x y _).mono ?_;rintro e w' ⟨rfl,h⟩;exact⟨rfl,h⟩
theorem zrl (g:Nat)(k:Array Value)(j:Hap→Hap→Int)(blk l:Nat)(h:Array Hap)(i:World)(t:∀args w,(callFunc g args).run prog w=.ok (.enter g args) w)(o:CmpLays prog g k hapCells 11 j blk 0 h.size i)(R:RowK hapCells 11 i blk 0 h)(A:h.size≤1000000)(a b:Nat)(d:Array Hap)(w:World)(s:h.size=d.size)(S:SWK hapCells 11 i blk 0 d w)(q:a≤b)(z:b≤d.size):
 Calls prog 180 #[.slice (some ⟨blk,0,none⟩) h.size l,.int .i64 a,.int .i64 b,.func (.func g) #[] k] w fun e w'=>e=.returned (.tuple #[])∧SWK hapCells 11 i blk 0 (Sort.insertionSort (ltOf j) d a b) w':=by
 have u:CmpLays prog g k hapCells 11 j blk 0 d.size w:=fun m p dk hdk x y=>by
  obtain⟨v,r,rfl⟩:=S;rw[sortWorldK_on hapCells 11 i blk 0 v m d dk r p R.hblk hdk];exact o _ _ dk (by omega) x y
 rw[s];refine(AnyQ.insertionSortCmpFunc Tryz.insHap 11 Tryz.isAgg261 Tryz.sizeOf261 hapCells R.hk R.h1 j g k blk 0 l a b d w t u (S.holds R.hblk R.hH s.symm) (S.lt R.hblk) q z (by omega)).mono ?_;rintro e w' ⟨rfl,n,p,rfl⟩;exact⟨rfl,SWK.on S R.hblk n _ p (zpf _ _ _ _)⟩
theorem zKk (d:Option Addr)(a:Nat)(b:Value)(w:World):
 Calls prog 180 #[.slice d 0 a,.int .i64 0,.int .i64 0,b] w fun e w'=>e=.returned (.tuple #[])∧w'=w:=by
 go_enter func180,ntmps180;go_wp2;refine wp_loop_rounds 1 ?_;rw[rounds_succ];go_wp2;go_end0;exact⟨rfl,rfl⟩
theorem zCb (b:Option Addr)(a:Nat)(d:Value)(w:World):
 Calls prog 163 #[.slice b 0 a,.int .i64 0,d] w fun e w'=>e=.returned (.tuple #[])∧w'=w:=by
 have g:=fun W=>zKk b a d W;go_enter func163,ntmps163;go_wp2;refine wp_loop_rounds 1 ?_;rw[rounds_succ];go_wp2_with (go_at_call 180;refine(g _).mono ?_;rintro e h ⟨rfl,rfl⟩);refine wp_loop_rounds 1 ?_;rw[rounds_succ];go_wp2;go_end0;exact⟨rfl,rfl⟩
theorem zF8 (b:Option Addr) (n a:Nat) (g:Nat) (d:Array Value) (w:World) (R:World→Prop)
 (h:Calls prog 163 #[.slice b n a,.int .i64 n,.func (.func g) #[] d] w fun e w'=>e=.returned (.tuple #[])∧R w'):
 Calls prog 132 #[.slice b n a,.func (.func g) #[] d] w fun e w'=>e=.returned (.tuple #[])∧R w':=by
 go_enter func132,ntmps132;go_wp2_with (go_at_call 163;refine h.mono ?_;rintro e i ⟨rfl,hR⟩);go_end0;exact⟨rfl,hR⟩
theorem z42 (a:Option Addr)(c:Nat)(b:List Hap)(B:Nat)(w:World)(hB:B≤w.heap.size)(V:b.length≤128)(s:w.ownsRow B 261 11 (.slice a b.length c) b.length (hapRow b)):
 Calls prog 163 #[.slice a b.length c,.int .i64 b.length,.func (.func 133) #[] #[]] w fun e w'=>e=.returned (.tuple #[])∧(HAt w' a (mgO b)∧Below B w w'):=by
 by_cases h0:b=[]
 ·subst h0;refine(zCb a c _ w).mono ?_;rintro e w' ⟨rfl,rfl⟩;exact⟨rfl,fun h=>absurd (List.eq_nil_of_length_eq_zero (zzV [])) h,zD⟩
 ·obtain⟨_,⟨k,L⟩|⟨g,U,S,k,K,H,P,_,Q,D⟩⟩:=s
  ·exact absurd (List.eq_nil_of_length_eq_zero L) h0
  ·injection k with k _ h3;subst k h3;have O:=z5L b;have F:HoldsK hapCells 11 w g 0 b.toArray:=by
    refine zfn hapCells 11 zsW b.toArray H ?_;intro i z j l;have y:i<b.length:=(by simpa using z);rw[getElem!_pos b.toArray i z];have v:=zTx b i y j l;rw[←D,List.getElem?_take_of_lt (by omega)]at v;rw[←Array.getElem?_toList,v];simp
   have R:RowK hapCells 11 w g 0 b.toArray:=⟨zsW,z5X,F,zBq H⟩;have q:b.toArray.size=b.length:=(by simp);have t:∀args w,(callFunc 133 args).run prog w=.ok (.enter 133 args) w:=enters_of func133 (by kernel_rfl) rfl;have x:=zw5 g 0 b.toArray.size w;have h:=zzz styH hapCells mgC 133 #[] g 0 c b.toArray b.toArray w w t x (zrl _ _ _ g c b.toArray w t x R (by omega)) R rfl (SWK.start F) (by omega);rw[q]at h;refine h.mono ?_;rintro e w' ⟨rfl,r⟩;refine⟨rfl,?_,zNp r K hB⟩;intro _;have E:(zjN (ltOf mgC) b.toArray).size=b.toArray.size:=(zUI (lt:=ltOf mgC) (p:=fun _=>True) (d:=b.toArray) (fun _=>trivial)).2;have G:=r.holds R.hblk R.hH E;refine⟨g,rfl,r.lt R.hblk,?_⟩;intro j u l;have n:j<(mgO b).length*11:=(by rw[←z5L];exact(zB l).1);have A:j/11<(mgO b).length:=(by omega);have J:j/11<(zjN (ltOf mgC) b.toArray).size:=(by simpa [mgO]using A);have I:=(G j (by rw[size_flatK];simpa [mgO]using n)).1;rw[Nat.zero_add]at I;rw[I,get_flatK hapCells 11 _ j (by simpa [mgO]using n)];have C:=zTx (mgO b) (j/11) A (j%11) (Nat.mod_lt _ (by omega));rw[show j/11*11+j%11=j by omega,l]at C;rw[getElem!_pos (zjN (ltOf mgC) b.toArray) (j/11) J];have N:(mgO b)[j/11]=(zjN (ltOf mgC) b.toArray)[j/11]:=(by simp[mgO]);have M:some u=(hapCells (zjN (ltOf mgC) b.toArray)[j/11])[j%11]?:=C.trans (congrArg (fun o=>(hapCells o)[j%11]?) N);have m:j%11<(hapCells (zjN (ltOf mgC) b.toArray)[j/11]).length:=(by rw[zsW];omega);rw[getElem!_pos (hapCells (zjN (ltOf mgC) b.toArray)[j/11]) (j%11) m,M,zC m];rfl
open Go.RowKit
def LAt (w:World)(la:Option Addr)(ls:List (List OpV)):Prop:=ls≠[]→∃g,la=some ⟨g,0,none⟩∧g<w.heap.size∧∀j (h:j<ls.length),∃a c,w.cell? ⟨g,j,none⟩=some (.slice a ls[j].length c)∧OAt w a ls[j]
theorem LAt.below {w w':World}{b:Option Addr}{e:List (List OpV)}(h:LAt w b e)(k:Below w.heap.size w w'):LAt w' b e:=by
 intro i;obtain⟨g,l,d,n⟩:=h i;refine⟨g,l,zI d k.size,fun j hj=>?_⟩;obtain⟨a,c,o,m⟩:=n j hj;exact⟨a,c,(k.cell (p:=⟨g,j,none⟩) d).trans o,m.below k⟩
def allH (ls:List (List OpV)):List Hap:=ls.flatMap (fun l=>(hapsOf l).2)
theorem zQ7 (a:List (List OpV))(j:Nat)(h:j<a.length):allH (a.take (j+1))=allH (a.take j)++(hapsOf a[j]).2:=by
 unfold allH;rw[List.take_succ_eq_append_getElem h,List.flatMap_append];simp
theorem ziY (l:List OpV):(hapsOf l).2.length=l.length:=by
 unfold hapsOf;have:∀(l:List OpV) (s:Int×List Hap),(l.foldl hapF s).2.length=s.2.length+l.length:=by
  intro l
  induction l with
  |nil=>intro s;simp
  |cons o t ih=>intro s;rw[List.foldl_cons,ih];simp[hapF];omega
 rw[this];simp
theorem zUf (a:List (List OpV))(j:Nat):(allH (a.take j)).length≤(allH a).length:=by
 conv=>rhs;rw[←List.take_append_drop j a]
 unfold allH;rw[List.flatMap_append,zJ];omega
def mergeP (ls:List (List OpV)):List OpV:=(mgO (allH ls)).map (·.2)
theorem zZl (l:List Hap):∀u∈hapRow l,u.oneCell'=true:=by
 intro u a;obtain⟨o,_,h⟩:=List.mem_flatMap.1 a;exact z5X o u h
theorem zxb (W:World)(b:Nat)(a:Option Addr)(n c:Nat)(i:List Value)(r:Option Addr)(m H:Nat)(l:List Hap)(h:W.ownsRow b 261 11 (.slice a n c) n i)(e:W.ownsRow H 261 11 (.slice r l.length m) l.length (hapRow l))(M:n+l.length≤100000)(A:b≤W.heap.size):
 ∃a' c' w',(Builtin.append_ #[257,257] 257 #[.slice a n c,.slice r l.length m]).run prog W=.ok (.slice a' (n+l.length) c') w'∧w'.ownsRow b 261 11 (.slice a' (n+l.length) c') (n+l.length) (i++hapRow l)∧Below b W w':=by
 obtain⟨G,k,s,z,v⟩:=info_parts zVO;have o:∀g,(Value.slice a n c).ownBlock=some g→b≤g:=zYv h;obtain⟨_,⟨d,I⟩|⟨g,L,K,d,q,t,_,_,_,x⟩⟩:=e
 ·injection d with d e3 e4;have E:l=[]:=List.eq_nil_of_length_eq_zero I;subst d e4 E;have B:n≤c:=by
   obtain⟨_,⟨p,_⟩|⟨_,_,_,p,_,_,N,_⟩⟩:=h
   ·injection p with _ e7 e8;omega
   ·injection p with _ e7 e8;omega
  refine⟨a,c,W,?_,by simpa [hapRow]using h,zD⟩;cases a<;>simp[Builtin.append_,go_sem,B]
 ·injection d with d e3 e4;subst d e4;obtain⟨O,y,D,e,F,_⟩:=run_append_own (P:=prog) W b 257 257 261 G _ 11 104 underlying257 k s z v rfl (by decide) (.slice a n c) n i h ⟨g,0,none⟩ l.length m (hapRow l) (z5L l) (fun j u hj=>by
   have C:j<l.length*11:=(by rw[←z5L];exact(zB hj).1);rw[Addr.add_lit,Nat.zero_add,zBk t,←Array.getElem?_toList];rw[←x,List.getElem?_take_of_lt C]at hj;exact hj) (zZl l) (by unfold maxLen;omega) (by omega) A
  obtain⟨a',c',rfl⟩:=zIW e;have J:Kept (Value.slice a n c).ownBlock.toList W y:=(Kept.refl _ W).grownS F (fun g' hg'=>by rw[hg'];simp);exact⟨a',c',y,D,e,J.below A (fun g q=>o g (by simpa using q))⟩
theorem HAt.below {w w':World}{a:Option Addr}{l:List Hap}(h:HAt w a l)(k:Below w.heap.size w w'):HAt w' a l:=by
 intro d;obtain⟨g,e,b,i⟩:=h d;exact⟨g,e,zI b k.size,fun j u hj=>(k.cell (p:=⟨g,j,none⟩) b).trans (i j u hj)⟩
theorem zPq (a:List Hap)(j:Nat)(h:j<a.length):opsRow ((a.take (j+1)).map (·.2))=opsRow ((a.take j).map (·.2))++opvCells a[j].2:=by
 rw[List.take_succ_eq_append_getElem h,List.map_append];exact z2L _ _
theorem zna (l a:List Hap):hapRow (l++a)=hapRow l++hapRow a:=by simp[hapRow]
theorem zCn (W:World)(b:Nat)(a:Option Addr)(n c:Nat)(d:List Value)(g:Option Addr)(i j:Nat)(l:List OpV)(h:W.ownsRow b 261 11 (.slice a n c) n d)(m:W.ownsRow j 261 11 (.slice g l.length i) l.length (hapRow (hapsOf l).2))(o:n+l.length≤100000)(k:b≤W.heap.size):
 ∃a' c' w',(Builtin.append_ #[257,257] 257 #[.slice a n c,.slice g l.length i]).run prog W=.ok (.slice a' (n+l.length) c') w'∧w'.ownsRow b 261 11 (.slice a' (n+l.length) c') (n+l.length) (d++hapRow (hapsOf l).2)∧Below b W w':=by
 have e:=ziY l;have:=zxb W b a n c d g i j (hapsOf l).2 h (by rw[e];exact m) (by omega) k;rw[e]at this;exact this
theorem zQl (la:Option Addr)(lc:Nat)(d:List (List OpV))(w:World)(hr:LAt w la d)(hl:(allH d).length≤128)(ao:∀l∈d,l.length≤128)(av:d.length≤1000):
 Calls prog 95 #[.slice la d.length lc] w fun e w'=>∃a c,e=.returned (.slice a (mergeP d).length c)∧OAt w' a (mergeP d)∧Below w.heap.size w w':=by
 have af:=fun oa oc (l:List OpV) W (h:OAt W oa l) (Z:l.length≤128)=>zd6X oa oc l W h Z;have HH:=Hid.mk' af;have HL:=Hid.mk' hl;have HR:=Hid.mk' hr;clear af hl hr;go_enter func95,ntmps95;go_wp2;go_loopw [3,11] (fun s i wr=>∃(j:Nat) (a:Option Addr) (c:Nat),s=.slice a (allH (d.take j)).length c∧i=.int .i64 (j:Int)∧j≤d.length∧wr.ownsRow w.heap.size 261 11 (.slice a (allH (d.take j)).length c) (allH (d.take j)).length (hapRow (allH (d.take j)))∧Below w.heap.size w wr) (fun _ i _=>d.length-(intOf i).toNat)
 case atStart=>exact⟨0,none,0,rfl,rfl,Nat.zero_le _,World.ownsRow_nil _ _ _ _,zD⟩
 case round=>
  obtain⟨j,a,c,rfl,rfl,hj,k,n⟩:=hrel;by_cases hin:j<d.length
  ·have C:(j:Int)<(d.length:Int):=(by omega);have R:d≠[]:=(by intro h;rw[h]at hin;simp at hin);obtain⟨g,rfl,hg,hc⟩:=(HR.out.below n) R;obtain⟨a1,c1,b,hO⟩:=hc j hin;have N:=Hid.mk' (zQ7 d j hin);have ak:=ao _ (List.getElem_mem hin);have K:=HH.out a1 c1 d[j] wr hO ak;have am:=zUf d (j+1);rw[N.out,zJ,ziY]at am;have E:(allH (d.take (j+1))).length=(allH (d.take j)).length+d[j].length:=(by rw[N.out,zJ,ziY]);have Y:=Hid.mk' E;have an:=HL.out;have HC:=Hid.mk' hc;have G:=Hid.mk' (And.intro k n);generalize hlx:d[j]=lx at b hO ak K am Y N;clear E k n hc hO hlx;go_wp2_with (first
    |(go_at_call 131;refine K.mono ?_;rintro e w3 ⟨a2,c2,rfl,Z,U⟩;have I:=owns_same G.out.1 (w':=w3) (fun g' hg'=>U.block g' (G.out.1.lt g' hg').2);have B:=G.out.2.trans (U.mono G.out.2.size);obtain⟨a',c',w7,S,p,y⟩:=zCn w3 w.heap.size a _ c _ a2 c2 wr.heap.size lx I Z (by omega) B.size;have t:=Hid.mk' (And.intro p (B.trans y));clear I p Z y U B)
    | (at_builtin;refine zOu rfl _ _ 257 rfl _ _ _ _ rfl rfl S ?_))
   go_roundw
   case rel=>exact⟨j+1,a',c',by rw[Y.out],by go_num,by omega,by rw[Y.out,N.out,zna];exact t.out.1,t.out.2⟩
   case measure=>simp[intOf];omega
  ·have C:¬(j:Int)<(d.length:Int):=(by omega);obtain rfl:j=d.length:=(by omega);rw[List.take_length]at k⊢;obtain⟨i0,X,ah,aj,ab⟩:=info_parts zSl;have an:=HL.out;have H:=zF8 a (allH d).length c 133 #[] wr _ (z42 a c (allH d) w.heap.size wr n.size HL.out k);have F:=fun(W:World)=>run_make_own (P:=prog) W W.heap.size 30 27 i0 _ 10 underlying30 X ah aj .i64 .i64 (allH d).length (by rw[ab];omega) (by unfold maxLen;omega) zH;have MK:=Hid.mk' F;have ag:=Hid.mk' n;clear F X ah aj ab k n;go_wp2_with (go_at_call 132;refine H.mono ?_;rintro e r ⟨rfl,O,z⟩;have V:=ag.out.trans z;obtain⟨wm,F,v,x⟩:=MK.out r;have HM:=Hid.mk' (And.intro v (And.intro x (And.intro O V)));clear v x O z V);obtain⟨v,x,O,z⟩:=HM.out;have ad:Below r.heap.size r wm:=((Kept.refl [] r).grownS x (fun g' hg'=>by simp at hg')).below zH (by simp);have D:(mgO (allH d)).length=(allH d).length:=zzV _;have HP:Hid (mergeP d=(mgO (allH d)).map (·.2)):=rfl;have Q:=Hid.mk' (And.intro O z);generalize hN:(allH d).length=Nn at*;generalize mgO (allH d)=mg at*;clear H F x HM MK HH O z HL HR ag;go_loopw [6,27] (fun s i w9=>∃(j:Nat) (L:Option Addr) (M:Nat),s=.slice L j M∧i=.int .i64 (j:Int)∧j≤Nn∧w9.ownsRow r.heap.size 27 10 (.slice L j M) j (opsRow ((mg.take j).map (·.2)))∧Below r.heap.size r w9) (fun _ i _=>Nn-(intOf i).toNat)
   case atStart=>exact⟨0,_,_,rfl,rfl,by omega,v,ad⟩
   case round=>
    clear v ad;obtain⟨j,L,M,rfl,rfl,hj,k,n⟩:=hrel;by_cases hin:j<Nn
    ·have C:(j:Int)<(Nn:Int):=(by omega);have R:mg≠[]:=(by intro h;rw[h]at D;simp at D;omega);have ae:j<mg.length:=(by omega);obtain⟨q,rfl,au,ai⟩:=(Q.out.1.below n) R;have b:∀c u,c<11→(hapCells mg[j])[c]?=some u→wr.cell? ⟨q,j*11+c,none⟩=some u:=fun c u hcc hu=>ai _ _ ((zTx mg j ae c hcc).trans hu);have N:=Hid.mk' (zPq mg j ae);generalize mg[j]=h at*;have q0:wr.cell? ⟨q,j*11,none⟩=some (.int .i64 h.1):=b 0 _ (by omega) rfl;have q1:wr.cell? ⟨q,j*11+1,none⟩=some (.int .i64 h.2.id):=b 1 _ (by omega) rfl;have q2:wr.cell? ⟨q,j*11+2,none⟩=some (.int .i64 h.2.cl):=b 2 _ (by omega) rfl;have q3:wr.cell? ⟨q,j*11+3,none⟩=some (.string ⟨h.2.name.toArray⟩):=b 3 _ (by omega) rfl;have q4:wr.cell? ⟨q,j*11+4,none⟩=some (.string ⟨h.2.key.toArray⟩):=b 4 _ (by omega) rfl;have q5:wr.cell? ⟨q,j*11+5,none⟩=some (.int .i64 h.2.arg):=b 5 _ (by omega) rfl;have q6:wr.cell? ⟨q,j*11+6,none⟩=some (.int .i64 h.2.exp):=b 6 _ (by omega) rfl;have q7:wr.cell? ⟨q,j*11+7,none⟩=some (.int .i64 h.2.call):=b 7 _ (by omega) rfl;have q8:wr.cell? ⟨q,j*11+8,none⟩=some (.int .i64 h.2.ret):=b 8 _ (by omega) rfl;have q9:wr.cell? ⟨q,j*11+9,none⟩=some (.int .i64 h.2.vk):=b 9 _ (by omega) rfl;have aq:wr.cell? ⟨q,j*11+10,none⟩=some (.int .i64 h.2.vn):=b 10 _ (by omega) rfl;obtain⟨o,m⟩:∃o,wr.alloc (.cells #[.int .i64 h.1,.int .i64 h.2.id,.int .i64 h.2.cl,.string ⟨h.2.name.toArray⟩,.string ⟨h.2.key.toArray⟩,.int .i64 h.2.arg,.int .i64 h.2.exp,.int .i64 h.2.call,.int .i64 h.2.ret,.int .i64 h.2.vk,.int .i64 h.2.vn] 261)=o:=⟨_,rfl⟩;have aa:Below wr.heap.size wr o:=(by rw[←m];exact zA _ _);have r0:o.cell? ⟨wr.heap.size,0,none⟩=some (.int .i64 h.1):=(by rw[←m];simp);have r1:o.cell? ⟨wr.heap.size,1,none⟩=some (.int .i64 h.2.id):=(by rw[←m];simp);have r2:o.cell? ⟨wr.heap.size,2,none⟩=some (.int .i64 h.2.cl):=(by rw[←m];simp);have r3:o.cell? ⟨wr.heap.size,3,none⟩=some (.string ⟨h.2.name.toArray⟩):=(by rw[←m];simp);have r4:o.cell? ⟨wr.heap.size,4,none⟩=some (.string ⟨h.2.key.toArray⟩):=(by rw[←m];simp);have r5:o.cell? ⟨wr.heap.size,5,none⟩=some (.int .i64 h.2.arg):=(by rw[←m];simp);have r6:o.cell? ⟨wr.heap.size,6,none⟩=some (.int .i64 h.2.exp):=(by rw[←m];simp);have r7:o.cell? ⟨wr.heap.size,7,none⟩=some (.int .i64 h.2.call):=(by rw[←m];simp);have r8:o.cell? ⟨wr.heap.size,8,none⟩=some (.int .i64 h.2.ret):=(by rw[←m];simp);have r9:o.cell? ⟨wr.heap.size,9,none⟩=some (.int .i64 h.2.vk):=(by rw[←m];simp);have ar:o.cell? ⟨wr.heap.size,10,none⟩=some (.int .i64 h.2.vn):=(by rw[←m];simp);have J:o.ownsRow r.heap.size 27 10 (.slice L j M) j (opsRow ((mg.take j).map (·.2))):=(by rw[←m];exact k.alloc _);have A:=n.trans (aa.mono n.size);obtain⟨a',c',w7,S,p,y⟩:=zpq o r.heap.size L j M _ h.2 J (by omega) A.size;have t:=Hid.mk' (And.intro p (A.trans y));clear b ai k J n A p y aa;go_wp2_with (at_builtin;refine zOu rfl _ _ 30 rfl _ _ _ _ rfl rfl S ?_);go_roundw
     case rel=>exact⟨j+1,a',c',rfl,by go_num,by omega,by rw[N.out];exact t.out.1,t.out.2⟩
     case measure=>simp[intOf];omega
    ·have C:¬(j:Int)<(Nn:Int):=(by omega);obtain rfl:j=Nn:=(by omega);have t:=Hid.mk' (And.intro k n);clear k n;go_wp2;go_ret;have al:(mergeP d).length=j:=(by rw[HP.out,List.length_map];exact D);refine⟨L,⟨M,by rw[al];rfl⟩,?_,Q.out.2.trans (t.out.2.mono Q.out.2.size)⟩;have h6:=t.out.1;rw[show mg.take j=mg from List.take_of_length_le (by omega),←HP.out,←al]at h6;exact z6a h6
theorem slInfo:(Tryz.prog.info? 30).map (fun i=>(i.zero,i.size,i.bytes))=some (some (.slice none 0 0),1,24):=by kernel_rfl
theorem zQW (W:World)(b:Nat)(a:Option Addr)(n c:Nat)(d:List Value)(x:Option Addr)(k y:Nat)(h:W.ownsRow b 30 1 (.slice a n c) n d)(g:n≤3000000)(e:b≤W.heap.size):ApR 30 49 1 W b a n c d [.slice x k y]:=zUq slInfo Tryz.underlying49 rfl (by decide) (by decide) rfl rfl h (by omega) e
structure SL (base:Nat)(W:World)(a:Option Addr)(c:Nat)(acc:List (List OpV)):Prop where
 own:∃xs,W.ownsRow base 30 1 (.slice a acc.length c) acc.length xs∧∀k (h:k<acc.length),∃x y,xs[k]?=some (.slice x acc[k].length y)∧OAt W x acc[k]∧(acc[k]≠[]→∀g,x=some ⟨g,0,none⟩→(Value.slice a acc.length c).ownBlock≠some g)
theorem SL.start (a:Nat)(W:World):SL a W none 0 []:=⟨[],World.ownsRow_nil _ _ _ _,fun _ h=>absurd h (Nat.not_lt_zero _)⟩
theorem SL.below {b:Nat}{W W':World}{a:Option Addr}{c:Nat}{d:List (List OpV)}(h:SL b W a c d)(k:Below W.heap.size W W'):SL b W' a c d:=by
 obtain⟨i,e,l⟩:=h;refine⟨i,owns_same e (fun g hg=>k.block g (e.lt g hg).2),fun j hj=>?_⟩;obtain⟨x,y,m,o,n⟩:=l j hj;exact⟨x,y,m,o.below k,n⟩
theorem SL.lat {e:Nat}{W:World}{a:Option Addr}{c:Nat}{d:List (List OpV)}(h:SL e W a c d):LAt W a d:=by
 intro i;obtain⟨r,⟨t,⟨_,b⟩|⟨g,q,p,b,s,l,_,_,_,k⟩⟩,n⟩:=h
 ·exact absurd (List.eq_nil_of_length_eq_zero b) i
 ·injection b with b;subst b;refine⟨g,rfl,zBq l,fun j hj=>?_⟩;obtain⟨x,y,m,o,_⟩:=n j hj;refine⟨x,y,?_,o⟩;rw[zBk l,←Array.getElem?_toList];rw[←k,List.getElem?_take_of_lt (by omega)]at m;exact m
theorem SL.snoc {q:Nat} {W v:World} {a a':Option Addr} {c c':Nat} {b:List (List OpV)} {s:List Value} (I:W.ownsRow q 30 1 (.slice a b.length c) b.length s) (G:∀k (h:k<b.length),∃x y,s[k]?=some (.slice x b[k].length y)∧OAt W x b[k]∧(b[k]≠[]→∀g,x=some ⟨g,0,none⟩→(Value.slice a b.length c).ownBlock≠some g)) (x:Option Addr) (y:Nat) (o:List OpV) (H:OAt W x o) (L:o≠[]→∀g,x=some ⟨g,0,none⟩→(Value.slice a b.length c).ownBlock≠some g)
 (A:v.ownsRow q 30 1 (.slice a' (b.length+1) c') (b.length+1) (s++[.slice x o.length y])) (E:Kept (Value.slice a b.length c).ownBlock.toList W v)
 (w:(Value.slice a' (b.length+1) c').ownBlock=(Value.slice a b.length c).ownBlock∨∃g,(Value.slice a' (b.length+1) c').ownBlock=some g∧W.heap.size≤g):SL q v a' c' (b++[o]):=by
 have r:∀(z:Option Addr) (l:List OpV),OAt W z l→(l≠[]→∀g,z=some ⟨g,0,none⟩→(Value.slice a b.length c).ownBlock≠some g)→OAt v z l∧(l≠[]→∀g,z=some ⟨g,0,none⟩→(Value.slice a' (b.length+1) c').ownBlock≠some g):=by
  intro z l C D;refine⟨?_,?_⟩
  ·intro m;obtain⟨g,e,d,M⟩:=C m;have K:=D m g e;refine⟨g,e,zI d E.size,fun j u hj=>?_⟩;exact(E.cell (p:=⟨g,j,none⟩) d (fun hm=>K (by simpa using hm))).trans (M j u hj)
  ·intro m g e t;obtain⟨B,n,d,_⟩:=C m;have:B=g:=(by rw[e]at n;injection n with n;injection n with n;exact n.symm);subst this;rcases w with i|⟨g3,i,hge⟩
   ·exact D m B e (i ▸ t)
   ·rw[i]at t;injection t with t;omega
 have F:s.length=b.length:=by have:=I.1;omega
 refine⟨s++[.slice x o.length y],?_,fun k hkk=>?_⟩
 ·rw[zJ,List.length_singleton];exact A
 ·rw[zJ,List.length_singleton]at hkk⊢;by_cases d:k<b.length
  ·obtain⟨z,J,N,n,O⟩:=G k d;have i:=r z _ n O;rw[List.getElem_append_left d];exact⟨z,J,by rw[List.getElem?_append_left (by omega)];exact N,i.1,i.2⟩
  ·obtain rfl:k=b.length:=(by omega);have i:=r x o H L;rw[List.getElem_append_right (by omega)];simp only [Nat.sub_self,List.getElem_singleton];exact⟨x,y,by rw[List.getElem?_append_right (by omega),F];simp,i.1,i.2⟩
def PAt (w:World)(pa:Option Addr)(ps:List (List UInt8×List OpV)):Prop:=ps≠[]→∃g,pa=some ⟨g,0,none⟩∧g<w.heap.size∧∀j (h:j<ps.length),∃a c,w.cell? ⟨g,j*2,none⟩=some (.string ⟨ps[j].1.toArray⟩)∧w.cell? ⟨g,j*2+1,none⟩=some (.slice a ps[j].2.length c)∧OAt w a ps[j].2
theorem PAt.below {w w':World}{d:Option Addr}{ps:List (List UInt8×List OpV)}(h:PAt w d ps)(k:Below w.heap.size w w'):PAt w' d ps:=by
 intro e;obtain⟨g,i,b,m⟩:=h e;refine⟨g,i,zI b k.size,fun j hj=>?_⟩;obtain⟨a,c,o,l,n⟩:=m j hj;exact⟨a,c,(k.cell (p:=⟨g,j*2,none⟩) b).trans o,(k.cell (p:=⟨g,j*2+1,none⟩) b).trans l,n.below k⟩
def say (v:Nat×List UInt8×List (List OpV)):List UInt8:=
 if v.1=0 then [85,78,75,78,79,87,78,10]
 else if v.1=2 then [73,76,76,69,71,65,76,32,112,97,114,116,61]++v.2.1++[32,108,111,110,103,101,115,116,61]++idsT (v.2.2.headD [])++[10]
 else [79,75,32,111,114,100,101,114,61]++idsT (mergeP v.2.2)++[10]
def okId (o:OpV):Prop:= -9223372036854775808≤o.id∧o.id≤9223372036854775807
def sumL (ls:List (List OpV)):Nat:=(ls.map List.length).sum
structure JM (S:List OpV→Int→Out→Prop)(w:World)(ps:List (List UInt8×List OpV))(b:Int)(j:Nat)(b':Int)(a:Option Addr)(c:Nat)(acc:List (List OpV))(W:World):Prop where
 le:j≤ps.length
 rng: -9223372036854775808≤b'∧b'≤1000000
 sl:SL w.heap.size W a c acc
 below:Below w.heap.size w W
 cnt:acc.length≤j
 sum:sumL acc≤sumL ((ps.take j).map (·.2))
 all:∀l∈acc,l.length≤128∧∀o∈l,okId o
 jd:∀v,Judged S (ps.drop j) b' acc v→Judged S ps b [] v
theorem zb6 (a b:List UInt8):(⟨a.toArray⟩:ByteArray)++⟨b.toArray⟩=⟨(a++b).toArray⟩:=by
 apply ByteArray.ext;rw[ByteArray.data_append];simp
theorem zTw (a:List (List OpV)):(allH a).length=sumL a:=by
 induction a with
 |nil=>rfl
 |cons l t ih=>
   have e:allH (l::t)=(hapsOf l).2++allH t:=rfl;rw[e,zJ,ih,ziY];unfold sumL;simp
theorem haps_mem (l:List OpV):∀h∈(hapsOf l).2,h.2∈l:=by
 have:∀(l:List OpV) (s:Int×List Hap),∀h∈(l.foldl hapF s).2,h∈s.2∨h.2∈l:=by
  intro l
  induction l with
  |nil=>intro s h a;exact Or.inl a
  |cons o t ih=>
    intro s h a;rw[List.foldl_cons]at a;rcases ih _ h a with h1|h1
    ·rcases List.mem_append.1 h1 with h1|h1
     ·exact Or.inl h1
     ·rw[List.mem_singleton]at h1;subst h1;exact Or.inr (by simp)
    ·exact Or.inr (by simp[h1])
 intro h a;rcases this l (0,[]) h a with h1|h1
 ·simp at h1
 ·exact h1
theorem zHz {p:OpV→Prop}(a:List (List OpV))(g:p default)(h:∀l∈a,∀o∈l,p o):∀o∈mergeP a,p o:=by
 intro o d;obtain⟨j,i,rfl⟩:=List.mem_map.1 d;refine z2M (p:=fun h=>p h.2) (allH a) g ?_ j i;intro x k;obtain⟨l,e,b⟩:=List.mem_flatMap.1 k;exact h l e _ (haps_mem l x b)
theorem zYf (a:List (List OpV)):(mergeP a).length=sumL a:=by
 unfold mergeP;rw[List.length_map,zzV,zTw]
theorem zOP (a:List OpV)(d:a.length≤128)(b:∀o∈a,okId o):(idsT a).length≤100000:=by
 unfold idsT;cases a with
 |nil=>simp[Lib.join]
 |cons o r=>
   rw[List.map_cons,Lib.join_length];have:=zZ4 (o::r) b;simp only [List.map_cons,List.length_cons,List.length_map]at*;show 1*r.length+_≤_;omega
theorem zNe {α:Type}(l:List α)(j:Nat)(h:j<l.length):l.drop j=l[j]::l.drop (j+1):=List.drop_eq_getElem_cons h
inductive Mo
 | I
 | B
 | Q
 | P
 | L
def zhg (y:Mo):FuncId:=match y with|.I=>65|.B=>70|.Q=>69|.P=>67|.L=>71
def z7G (y:Mo):FuncId:=match y with|.I=>93|.B=>101|.Q=>100|.P=>96|.L=>102
def modT (y:Mo):TypeId:=match y with|.I=>129|.B=>137|.Q=>135|.P=>133|.L=>139
theorem zFa (y:Mo) {σ:Type} [DecidableEq σ] (L:σ→OpV→σ×Int×Int) (s0:σ) (aA:OpV→Prop) (aq:World→Prop) (pa:Option Addr) (pc:Nat) (ps:List (List UInt8×List OpV)) (b:Int) (w:World) (hr:PAt w pa ps) (hb: -9223372036854775808≤b∧b≤1000000) (az:∀q∈ps,q.2.length≤128∧q.1.length≤100000000∧∀o∈q.2,aA o∧okId o)
 (ao:sumL (ps.map (·.2))≤128) (hn:ps.length≤1000) (hp:Pow w) (hh:∀w',Below w.heap.size w w'→aq w')
 (af:∀(pa:Option Addr) (pc:Nat) (part:List OpV) (b:Int) (w:World),OAt w pa part→part.length≤128→ -9223372036854775808≤b∧b≤1000000→(∀o∈part,aA o)→aq w→
  Calls prog (z7G y) #[.agg #[],.slice pa part.length pc,.int .i64 b] w fun e w'=>∃r a c,Found L (ordO part) s0 b r∧e=.returned (.agg #[.int .i64 (r.verdict:Int),.slice a r.order.length c,.int .i64 r.left])∧OAt w' a r.order∧Below w.heap.size w w'∧∀g,a=some ⟨g,0,none⟩→r.order≠[]→w.heap.size≤g):
 Calls prog (zhg y) #[.agg #[],.slice pa ps.length pc,.int .i64 b] w fun e w'=>∃v,Judged (fun p b r=>Found L (ordO p) s0 b r) ps b [] v∧e=.returned (.string ⟨(say v).toArray⟩)∧Below w.heap.size w w':=by
 have HR:=Hid.mk' hr;have aM:=Hid.mk' az;have HT:=Hid.mk' ao;have aB:=Hid.mk' hp;have HH:=Hid.mk' hh;have HP:=Hid.mk' af;have J0:Hid (JM (fun p b r=>Found L (ordO p) s0 b r) w ps b 0 b none 0 [] (w.alloc (.cells #[] (modT y)))):=⟨Nat.zero_le _,hb,SL.start _ _,zA _ _,Nat.le_refl _,Nat.zero_le _,(fun l hl=>by cases hl),fun v h=>h⟩;clear hr az ao hp hh af;cases y
 all_goals
  simp only [zhg]
  first|go_enter func65,ntmps65|go_enter func70,ntmps70|go_enter func69,ntmps69|go_enter func67,ntmps67|go_enter func71,ntmps71
  go_wp2;go_loopw [2,7,13] (fun s2 s7 s13 wr=>∃(j:Nat) (R:Int) (a:Option Addr) (c:Nat) (d:List (List OpV)),s2=.int .i64 R∧s7=.slice a d.length c∧s13=.int .i64 (j:Int)∧Hid (JM (fun p b r=>Found L (ordO p) s0 b r) w ps b j R a c d wr)) (fun _ _ i _=>ps.length-(intOf i).toNat)
  case atStart=>exact⟨0,b,none,0,[],rfl,rfl,rfl,J0⟩
  case round=>
   clear J0;obtain⟨j,R,a,c,d,rfl,rfl,rfl,m⟩:=hrel;by_cases hin:j<ps.length
   ·have aE:(j:Int)<(ps.length:Int):=(by omega);have aL:ps≠[]:=(by intro h;rw[h]at hin;simp at hin);obtain⟨g,rfl,hg,hc⟩:=(HR.out.below m.out.below) aL;obtain⟨a1,c1,aj,ah,hO⟩:=hc j hin;obtain⟨aw,aY,an⟩:=aM.out _ (List.getElem_mem hin);have HD:=Hid.mk' (zNe ps j hin);have V:Hid (sumL ((ps.take (j+1)).map (·.2))=sumL ((ps.take j).map (·.2))+ps[j].2.length):=by
     show _=_;rw[List.take_succ_eq_append_getElem hin];unfold sumL;rw[List.map_append,List.map_append,List.sum_append];simp
    generalize ps[j]=pt at*;obtain⟨D,pp⟩:=pt;dsimp only at*;have aC:=m.out.rng;obtain⟨H,Z⟩:∃H,wr.alloc (.cells #[.string ⟨D.toArray⟩,.slice a1 pp.length c1] 200)=H:=⟨_,rfl⟩;have Y:Below wr.heap.size wr H:=(by rw[←Z];exact zA _ _);have k0:H.cell? ⟨wr.heap.size,0,none⟩=some (.string ⟨D.toArray⟩):=(by rw[←Z];simp);have k1:H.cell? ⟨wr.heap.size,1,none⟩=some (.slice a1 pp.length c1):=(by rw[←Z];simp);have X:wr.heap.size<H.heap.size:=(by rw[←Z];simp);have J:=HP.out a1 c1 pp R H (hO.below Y) aw aC (fun o ho=>(an o ho).1) (HH.out H (m.out.below.trans (Y.mono m.out.below.size)));have F:=Hid.mk' Y;have HQ:=Hid.mk' an;clear hO an Y;go_wp2_with fail;refine J.mono ?_;rintro e t ⟨r,N,M,U,rfl,O,C,S⟩;obtain⟨h1,h2,h3,h4,h5⟩:=zzE (p:=okId) aw U ⟨by decide,by decide⟩ (fun o ho=>(HQ.out o ho).2);obtain⟨vd,u,Q⟩:=r;dsimp only at*;have hv:vd=0∨vd=1∨vd=2:=(by omega);rcases hv with rfl|rfl|rfl
    ·obtain⟨k,s⟩:∃k,t.alloc (.cells #[.int .i64 0,.slice N u.length M,.int .i64 Q] 203)=k:=⟨_,rfl⟩;have A:Below t.heap.size t k:=(by rw[←s];exact zA _ _);have n:Below H.heap.size H k:=C.trans (A.mono C.size);have z:Below wr.heap.size wr k:=F.out.trans (n.mono F.out.size);have B:Below w.heap.size w k:=m.out.below.trans (z.mono m.out.below.size);have l0:k.cell? ⟨wr.heap.size,0,none⟩=some (.string ⟨D.toArray⟩):=(n.cell (p:=⟨wr.heap.size,0,none⟩) X).trans k0;have n0:k.cell? ⟨t.heap.size,0,none⟩=some (.int .i64 0):=(by rw[←s];simp);have n1:k.cell? ⟨t.heap.size,1,none⟩=some (.slice N u.length M):=(by rw[←s];simp);have n2:k.cell? ⟨t.heap.size,2,none⟩=some (.int .i64 Q):=(by rw[←s];simp);have I:=O.below A;have E:=Hid.mk' (And.intro U (And.intro z (And.intro B (And.intro I (And.intro C S)))));clear U z B I O C A n S J aj ah k0 k1;go_wp2;go_ret;exact⟨(0,[],[]),m.out.jd _ (by rw[HD.out];exact Judged.unknown D pp _ R d _ E.out.1 rfl),rfl,E.out.2.2.1⟩
    ·obtain⟨k,s⟩:∃k,t.alloc (.cells #[.int .i64 1,.slice N u.length M,.int .i64 Q] 203)=k:=⟨_,rfl⟩;have A:Below t.heap.size t k:=(by rw[←s];exact zA _ _);have n:Below H.heap.size H k:=C.trans (A.mono C.size);have z:Below wr.heap.size wr k:=F.out.trans (n.mono F.out.size);have B:Below w.heap.size w k:=m.out.below.trans (z.mono m.out.below.size);have l0:k.cell? ⟨wr.heap.size,0,none⟩=some (.string ⟨D.toArray⟩):=(n.cell (p:=⟨wr.heap.size,0,none⟩) X).trans k0;have n0:k.cell? ⟨t.heap.size,0,none⟩=some (.int .i64 1):=(by rw[←s];simp);have n1:k.cell? ⟨t.heap.size,1,none⟩=some (.slice N u.length M):=(by rw[←s];simp);have n2:k.cell? ⟨t.heap.size,2,none⟩=some (.int .i64 Q):=(by rw[←s];simp);have I:=O.below A;have E:=Hid.mk' (And.intro U (And.intro z (And.intro B (And.intro I (And.intro C S)))));clear U z B I O C A n S J aj ah k0 k1;have aO:=m.out.sl.below E.out.2.1;obtain⟨xs,ab,ax⟩:=aO;have ay:=m.out.cnt;obtain⟨a',c',w7,aN,aa,ad,am⟩:=zQW k w.heap.size a d.length c xs N u.length M ab (by omega) E.out.2.2.1.size;have J2:Hid (JM (fun p b r=>Found L (ordO p) s0 b r) w ps b (j+1) Q a' c' (d++[u]) w7):=by
      refine⟨by omega,by omega,SL.snoc ab ax N M u E.out.2.2.2.1 ?_ aa ad am,E.out.2.2.1.trans (ad.below E.out.2.2.1.size (fun g' hg'=>zYv ab g' (by simpa using hg'))),by simp;omega,?_,?_,?_⟩
      ·intro aF g' e1 e2;have h7:=E.out.2.2.2.2.2 g' e1 aF;obtain⟨aT,ak,_⟩:=m.out.sl;have h8:=(ak.lt g' e2).2;have h9:=F.out.size;omega
      ·have h7:=m.out.sum;rw[V.out];have h8:sumL (d++[u])=sumL d+u.length:=(by unfold sumL;rw[List.map_append,List.sum_append];simp);rw[h8];exact Nat.add_le_add h7 h1
      ·intro l G;rcases List.mem_append.1 G with G|G
       ·exact m.out.all l G
       ·rw[List.mem_singleton]at G;subst G;exact⟨by omega,h2⟩
      ·intro v aH;refine m.out.jd v ?_;rw[HD.out];exact Judged.next D pp _ R d _ v E.out.1 rfl aH
     have m2:w7.cell? ⟨t.heap.size,2,none⟩=some (.int .i64 Q):=by
      refine(ad.cell (p:=⟨t.heap.size,2,none⟩) (by rw[←s];simp) (fun hm=>?_)).trans n2;obtain⟨aT,ak,_⟩:=m.out.sl;have h8:=(ak.lt _ (by simpa using hm)).2;have h9:=F.out.size;have a3:=E.out.2.2.2.2.1.size;omega
     have aW:=Hid.mk' E.out;clear ab ax aa ad am m V hc E HQ F HD HR h2 l0 ay;go_wp2_with (at_builtin;refine zOu rfl _ _ 49 rfl _ _ _ _ rfl rfl aN ?_);go_roundw
     case rel=>exact⟨j+1,Q,a',c',d++[u],rfl,by rw[zJ];rfl,by go_num,J2⟩
     case measure=>simp[intOf];omega
    ·obtain⟨k,s⟩:∃k,t.alloc (.cells #[.int .i64 2,.slice N u.length M,.int .i64 Q] 203)=k:=⟨_,rfl⟩;have A:Below t.heap.size t k:=(by rw[←s];exact zA _ _);have n:Below H.heap.size H k:=C.trans (A.mono C.size);have z:Below wr.heap.size wr k:=F.out.trans (n.mono F.out.size);have B:Below w.heap.size w k:=m.out.below.trans (z.mono m.out.below.size);have l0:k.cell? ⟨wr.heap.size,0,none⟩=some (.string ⟨D.toArray⟩):=(n.cell (p:=⟨wr.heap.size,0,none⟩) X).trans k0;have n0:k.cell? ⟨t.heap.size,0,none⟩=some (.int .i64 2):=(by rw[←s];simp);have n1:k.cell? ⟨t.heap.size,1,none⟩=some (.slice N u.length M):=(by rw[←s];simp);have I:=O.below A;have aI:t.heap.size<k.heap.size:=(by rw[←s];simp);have aS:wr.heap.size<k.heap.size:=(by have:=n.size;omega);have aZ:∀p:KeptBy k,p.now.cell? ⟨wr.heap.size,0,none⟩=some (.string ⟨D.toArray⟩):=fun p=>zLF (x:=⟨wr.heap.size,0,none⟩) aS l0 p;have aX:∀p:KeptBy k,p.now.cell? ⟨t.heap.size,1,none⟩=some (.slice N u.length M):=fun p=>zLF (x:=⟨t.heap.size,1,none⟩) aI n1 p;have ag:Pow k:=aB.out.stays B;have P:∀p:KeptBy k,_:=fun p=>ids_any N M u p.now (I.below p.h) (by omega) h2 (ag.stays p.h);have aJ:=zOP u (by omega) h2;have aD:prog.follows .mixedOrders=true:=(by kernel_rfl);have HJ:=Hid.mk' (m.out.jd (2,D,[u]) (by rw[HD.out];exact Judged.illegal D pp _ R d ⟨2,u,Q⟩ U rfl));have aR:Hid (say (2,D,[u])=[73,76,76,69,71,65,76,32,112,97,114,116,61]++D++[32,108,111,110,103,101,115,116,61]++idsT u++[10]):=rfl;have E:=Hid.mk' B;clear U z B I O C A n S J aj ah k0 k1 ag m HD HR hc HQ F V h2;generalize hTT:idsT u=TT at*;have s1:(9223372036854775807<13+D.length)=False:=(by simp;omega);have s2:(9223372036854775807<13+D.length+9)=False:=(by simp;omega);have s3:(9223372036854775807<13+D.length+9+TT.length)=False:=(by simp;omega);have s4:(9223372036854775807<13+D.length+9+TT.length+1)=False:=(by simp;omega);go_wp2_with fail;refine zhU aD (by kernel_rfl) ?_
     repeat (refine z40z (fun K hK=>?_);go_simp;first|(refine hK _ ?_;clear hK K)|(apply Exists.intro;refine⟨fun _=>?_,hK _ ?_⟩;(go_at_call 94;refine zfm (P _));clear hK K))
     refine zy7 ?_;intro _ aQ;obtain⟨⟨w4,ae⟩,rfl⟩:=aQ;have ar:=Hid.mk' ae;clear ae;go_wp2;go_ret;refine⟨(2,D,[u]),HJ.out,?_,E.out.trans (ar.out.mono E.out.size)⟩;rw[aR.out,←zb6,←zb6,←zb6,←zb6];rfl
   ·have aE:¬(j:Int)<(ps.length:Int):=(by omega);obtain rfl:j=ps.length:=(by have:=m.out.le;omega);have hj:=m.out.jd (1,[],d) (by rw[List.drop_length];exact Judged.ok R d);have av:=m.out.sum;rw[List.take_length]at av;have aP:=HT.out;have ay:=m.out.cnt;have hm:=zQl a c d wr m.out.sl.lat (by rw[zTw];omega) (fun l G=>(m.out.all l G).1) (by omega);have aU:=zYf d;have al:=zHz (p:=okId) d ⟨by decide,by decide⟩ (fun l G=>(m.out.all l G).2);have aJ:=zOP (mergeP d) (by omega) al;have P:=fun x y W (hO:OAt W x (mergeP d)) (hW:Pow W)=>ids_any x y (mergeP d) W hO (by omega) al hW;have HI:=Hid.mk' P;have HY:=Hid.mk' (And.intro hj m.out.below);clear P hj av aP aU al m;have aK:Hid (say (1,[],d)=[79,75,32,111,114,100,101,114,61]++idsT (mergeP d)++[10]):=rfl;have a0:(9223372036854775807<9+(idsT (mergeP d)).length)=False:=(by simp;omega);have aV:(9223372036854775807<9+(idsT (mergeP d)).length+1)=False:=(by simp;omega);generalize hTT:idsT (mergeP d)=TT at*;generalize hmg:mergeP d=mg at*;clear hmg hTT;go_wp2_with fail;refine hm.mono ?_;rintro e w3 ⟨x,y,rfl,hO,A⟩;have ai:Below w.heap.size w w3:=HY.out.2.trans (A.mono HY.out.2.size);have hi:=HI.out x y w3 hO (aB.out.stays ai);have au:=Hid.mk' ai;clear ai hm;go_wp2_with (go_at_call 94;refine hi.mono ?_;rintro e w4 ⟨rfl,ae⟩;have ar:=Hid.mk' ae);go_ret;refine⟨(1,[],d),HY.out.1,?_,au.out.trans (ar.out.mono au.out.size)⟩;rw[aK.out,←zb6,←zb6];rfl
theorem zlb (a:Option Addr) (d:Nat) (ps:List (List UInt8×List OpV)) (b:Int) (w:World) (k:PAt w a ps) (i: -9223372036854775808≤b∧b≤1000000) (h:∀q∈ps,q.2.length≤128∧q.1.length≤100000000∧∀o∈q.2,wfI o.arg∧okId o)
 (g:sumL (ps.map (·.2))≤128) (l:ps.length≤1000) (j:Pow w):
 Calls prog 65 #[.agg #[],.slice a ps.length d,.int .i64 b] w fun e w'=>∃v,Judged (fun p b r=>Found zCI (ordO p) 0 b r) ps b [] v∧e=.returned (.string ⟨(say v).toArray⟩)∧Below w.heap.size w w':=
 zFa .I zCI 0 (fun o=>wfI o.arg) (fun _=>True) a d ps b w k i h g l j (fun _ _=>trivial) (fun a d part b w h1 h2 h3 h4 _=>z6C a d part b w h1 h2 h3 h4)
theorem zCt (a:Option Addr) (d:Nat) (ps:List (List UInt8×List OpV)) (b:Int) (w:World) (k:PAt w a ps) (i: -9223372036854775808≤b∧b≤1000000) (h:∀q∈ps,q.2.length≤128∧q.1.length≤100000000∧∀o∈q.2,wfI o.arg∧okId o)
 (g:sumL (ps.map (·.2))≤128) (l:ps.length≤1000) (j:Pow w):
 Calls prog 70 #[.agg #[],.slice a ps.length d,.int .i64 b] w fun e w'=>∃v,Judged (fun p b r=>Found zqY (ordO p) false b r) ps b [] v∧e=.returned (.string ⟨(say v).toArray⟩)∧Below w.heap.size w w':=
 zFa .B zqY false (fun o=>wfI o.arg) (fun _=>True) a d ps b w k i h g l j (fun _ _=>trivial) (fun a d part b w h1 h2 h3 _ _=>zSE a d part b w h1 h2 h3)
theorem zQY (a:Option Addr) (d:Nat) (ps:List (List UInt8×List OpV)) (b:Int) (w:World) (l:PAt w a ps) (k: -9223372036854775808≤b∧b≤1000000) (i:∀q∈ps,q.2.length≤128∧q.1.length≤100000000∧∀o∈q.2,wfI o.arg∧okId o)
 (g:sumL (ps.map (·.2))≤128) (m:ps.length≤1000) (j:Pow w) (hG:Glob w):
 Calls prog 69 #[.agg #[],.slice a ps.length d,.int .i64 b] w fun e w'=>∃v,Judged (fun p b r=>Found quDo (ordO p) [] b r) ps b [] v∧e=.returned (.string ⟨(say v).toArray⟩)∧Below w.heap.size w w':=
 zFa .Q quDo [] (fun o=>wfI o.arg) (fun w=>Glob w∧Pow w) a d ps b w l k i g m j (fun _ h=>⟨hG.below (h.mono hG.errs.lt),j.stays h⟩) (fun a d part b w h1 h2 h3 h4 h5=>zSX a d part b w h1 h2 h3 h4 h5.1 h5.2)
theorem z0f (a:Option Addr) (d:Nat) (ps:List (List UInt8×List OpV)) (b:Int) (w:World) (k:PAt w a ps) (i: -9223372036854775808≤b∧b≤1000000) (h:∀q∈ps,q.2.length≤128∧q.1.length≤100000000∧∀o∈q.2,wfI o.arg∧okId o)
 (g:sumL (ps.map (·.2))≤128) (l:ps.length≤1000) (j:Pow w):
 Calls prog 67 #[.agg #[],.slice a ps.length d,.int .i64 b] w fun e w'=>∃v,Judged (fun p b r=>Found stDo (ordO p) (false,0) b r) ps b [] v∧e=.returned (.string ⟨(say v).toArray⟩)∧Below w.heap.size w w':=
 zFa .P stDo (false,0) (fun o=>wfI o.arg) (fun _=>True) a d ps b w k i h g l j (fun _ _=>trivial) (fun a d part b w h1 h2 h3 h4 _=>zDU a d part b w h1 h2 h3 h4)
theorem zvN (a:Option Addr) (d:Nat) (ps:List (List UInt8×List OpV)) (b:Int) (w:World) (k:PAt w a ps) (i: -9223372036854775808≤b∧b≤1000000) (h:∀q∈ps,q.2.length≤128∧q.1.length≤100000000∧∀o∈q.2,wfI o.cl∧okId o)
 (g:sumL (ps.map (·.2))≤128) (l:ps.length≤1000) (j:Pow w):
 Calls prog 71 #[.agg #[],.slice a ps.length d,.int .i64 b] w fun e w'=>∃v,Judged (fun p b r=>Found lkDo (ordO p) (false,0) b r) ps b [] v∧e=.returned (.string ⟨(say v).toArray⟩)∧Below w.heap.size w w':=
 zFa .L lkDo (false,0) (fun o=>wfI o.cl) (fun _=>True) a d ps b w k i h g l j (fun _ _=>trivial) (fun a d part b w h1 h2 h3 h4 _=>zpP a d part b w h1 h2 h3 h4)
theorem zjc (a:Option Addr)(c:Nat)(b:List OpV)(w:World)(i:OAt w a b):
 Calls prog 66 #[.slice a b.length c] w fun e w'=>e=.returned (.slice (some ⟨w.heap.size,0,none⟩) 1 1)∧PAt w' (some ⟨w.heap.size,0,none⟩) [([45],b)]∧Below w.heap.size w w':=by
 refine(whole_any a b.length c w).mono ?_;rintro e w' ⟨rfl,d,g⟩;refine⟨rfl,?_,g⟩;intro _;have h:w.heap.size<w'.heap.size:=(Array.getElem?_eq_some_iff.1 d).1;refine⟨_,rfl,h,fun j hj=>?_⟩;obtain rfl:j=0:=by simpa using hj
 refine⟨a,c,?_,?_,i.below g⟩
 ·show World.cell? w' ⟨w.heap.size,0,none⟩=_;simp[World.cell?,d]
 ·show World.cell? w' ⟨w.heap.size,1,none⟩=_;simp[World.cell?,d]
theorem zOm (a:Option Addr)(c:Nat)(d:List OpV)(b:Int)(w:World)(k:OAt w a d)(B: -9223372036854775808≤b∧b≤1000000)(n:d.length≤128)(u:∀o∈d,wfI o.arg∧okId o)(t:Pow w):
 Calls prog 35 #[.string ⟨#[114,101,103,105,115,116,101,114]⟩,.slice a d.length c,.int .i64 b] w fun e w'=>∃v,Judged (fun p b r=>Found zCI (ordO p) 0 b r) [([45],d)] b [] v∧e=.returned (.string ⟨(say v).toArray⟩)∧Below w.heap.size w w':=by
 have C:=zjc a c d w k;have A:=Hid.mk' (fun w' (h:PAt w' (some ⟨w.heap.size,0,none⟩) [([45],d)]) (g:Pow w')=>zlb (some ⟨w.heap.size,0,none⟩) 1 [([45],d)] b w' h B (by intro q l;rw[List.mem_singleton]at l;subst l;exact⟨n,by simp,u⟩) (by simpa [sumL]using n) (by simp) g);have z:=Hid.mk' t;clear k u t;go_enter func35,ntmps35;go_wp2_with (go_at_call 66;refine C.mono ?_;rintro e y ⟨rfl,h,g⟩;have s:=A.out y h (z.out.stays g);have m:=Hid.mk' g;clear h g);refine s.mono ?_;rintro e D ⟨v,j,rfl,i⟩;have x:=Hid.mk' (And.intro j i);clear j i s;go_wp2;go_ret;exact⟨v,x.out.1,rfl,m.out.trans (x.out.2.mono m.out.size)⟩
end Go.Proofs.YtoeoinpaidhmcaaGreatDoor.srch
