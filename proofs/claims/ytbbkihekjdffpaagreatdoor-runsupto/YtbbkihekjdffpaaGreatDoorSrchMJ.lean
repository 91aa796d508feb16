/- Several texts in one. -/
import Derived.Test.YtbbkihekjdffpaaGreatDoorSrchZZ
set_option maxHeartbeats 4000000
set_option maxRecDepth 100000
namespace Go.Proofs.YtbbkihekjdffpaaGreatDoor.srch
open Tryz
open Go.RowKit Go.Shelf
open Go.Sort (swp size_swp grow grow_grow grow_empty alloc_eq_grow size_grow HoldsK flatK size_flatK get_flatK putRowK size_putRowK)
theorem z5L (l:List Hap):(hapRow l).length=l.length*11:=by
 induction l with
 |nil=>rfl
 |cons o r ih=>
   rw[show hapRow (o::r)=hapCells o++hapRow r from rfl,zI,ih,List.length_cons];show 11+r.length*11=_;omega
theorem zTx (ops:List Hap)(i:Nat)(h:i<ops.length):∀c,c<11→(hapRow ops)[i*11+c]?=(hapCells ops[i])[c]?:=by
 induction ops generalizing i with
 |nil=>simp at h
 |cons o r ih=>
   intro c hc;have e:hapRow (o::r)=hapCells o++hapRow r:=(by simp[hapRow]);have hl:(hapCells o).length=11:=rfl;rw[e];cases i with
   |zero=>simp only [Nat.zero_mul,Nat.zero_add,List.getElem_cons_zero];rw[List.getElem?_append_left (by omega)]
   |succ i=>
     rw[List.getElem?_append_right (by omega),hl,show(i+1)*11+c-11=i*11+c by omega,ih i (by simpa using h) c hc];rfl
def HAt (w:World)(oa:Option Addr)(l:List Hap):Prop:=l≠[]→∃g,oa=some ⟨g,0,none⟩∧g<w.heap.size∧∀j u,(hapRow l)[j]?=some u→w.cell? ⟨g,j,none⟩=some u
def mgC (a b:Hap):Int:=cmpI a.1 b.1
def mgO (ops:List Hap):List Hap:=(zjN (ltOf mgC) ops.toArray).toList
theorem zzV (ops:List Hap):(mgO ops).length=ops.length:=by
 unfold mgO;have:=(zUI (lt:=ltOf mgC) (p:=fun _=>True) (d:=ops.toArray) (fun _=>trivial)).2;simpa using this
theorem z2M {p:Hap→Prop}(ops:List Hap)(h0:p default)(h:∀o∈ops,p o):∀o∈mgO ops,p o:=by
 have h1:AllP p ops.toArray:=by
  intro i;by_cases hi:i<ops.length
  ·rw[getElem!_pos _ _ (by simpa using hi)];exact h _ (by simp)
  ·rw[getElem!_neg _ _ (by simpa using hi)];exact h0
 have h2:=(zUI (lt:=ltOf mgC) h1).1;intro o ho;obtain⟨i,hi,rfl⟩:=List.getElem_of_mem ho;have:=h2 i;unfold mgO at hi;rw[getElem!_pos _ _ (by simpa using hi)]at this;simpa [mgO]using this
theorem zsW (o:Hap):(hapCells o).length=11:=rfl
theorem z5X (o:Hap):∀v∈hapCells o,v.oneCell'=true:=by
 intro u h;simp[hapCells,opvCells]at h;rcases h with rfl|rfl|rfl|rfl|rfl|rfl|rfl|rfl|rfl|rfl|rfl<;>rfl
theorem zw5 (blk off size:Nat)(w:World):CmpLays prog 89 #[] hapCells 11 mgC blk off size w:=by
 intro m os dk _ x y;refine(zYc x y _).mono ?_;rintro e w' ⟨rfl,h⟩;exact⟨rfl,h⟩
theorem zrl (g:Nat)(cb:Array Value)(cf:Hap→Hap→Int)(blk cap:Nat)(d0:Array Hap)(w0:World)(eg:∀args w,(callFunc g args).run prog w=.ok (.enter g args) w)(hcmp:CmpLays prog g cb hapCells 11 cf blk 0 d0.size w0)(R:RowK hapCells 11 w0 blk 0 d0)(hsz:d0.size≤1000000)(a b:Nat)(d:Array Hap)(w:World)(hs:d0.size=d.size)(S:SWK hapCells 11 w0 blk 0 d w)(hab:a≤b)(hb:b≤d.size):
 Calls prog 151 #[.slice (some ⟨blk,0,none⟩) d0.size cap,.int .i64 a,.int .i64 b,.func (.func g) #[] cb] w fun e w'=>e=.returned (.tuple #[])∧SWK hapCells 11 w0 blk 0 (Sort.insertionSort (ltOf cf) d a b) w':=by
 have hC:CmpLays prog g cb hapCells 11 cf blk 0 d.size w:=fun m os dk hdk x y=>by
  obtain⟨n0,os0,rfl⟩:=S;rw[sortWorldK_on hapCells 11 w0 blk 0 n0 m d dk os0 os R.hblk hdk];exact hcmp _ _ dk (by omega) x y
 rw[hs];refine(AnyQ.insertionSortCmpFunc Tryz.insHap 11 Tryz.isAgg181 Tryz.sizeOf181 hapCells R.hk R.h1 cf g cb blk 0 cap a b d w eg hC (S.holds R.hblk R.hH hs.symm) (S.lt R.hblk) hab hb (by omega)).mono ?_;rintro e w' ⟨rfl,n,os,rfl⟩;exact⟨rfl,SWK.on S R.hblk n _ os (zpf _ _ _ _)⟩
theorem zKk (oa:Option Addr)(cap:Nat)(fv:Value)(w:World):
 Calls prog 151 #[.slice oa 0 cap,.int .i64 0,.int .i64 0,fv] w fun e w'=>e=.returned (.tuple #[])∧w'=w:=by
 go_enter func151,ntmps151;go_wp2;refine wp_loop_rounds 1 ?_;rw[rounds_succ];go_wp2;go_end0;exact⟨rfl,rfl⟩
theorem zCb (oa:Option Addr)(cap:Nat)(fv:Value)(w:World):
 Calls prog 127 #[.slice oa 0 cap,.int .i64 0,fv] w fun e w'=>e=.returned (.tuple #[])∧w'=w:=by
 have hi:=fun W=>zKk oa cap fv W;go_enter func127,ntmps127;go_wp2;refine wp_loop_rounds 1 ?_;rw[rounds_succ];go_wp2_with (go_at_call 151;refine(hi _).mono ?_;rintro e w1 ⟨rfl,rfl⟩);refine wp_loop_rounds 1 ?_;rw[rounds_succ];go_wp2;go_end0;exact⟨rfl,rfl⟩
theorem zF8 (oa:Option Addr) (n cap:Nat) (g:Nat) (cb:Array Value) (w:World) (R:World→Prop)
 (h:Calls prog 127 #[.slice oa n cap,.int .i64 n,.func (.func g) #[] cb] w fun e w'=>e=.returned (.tuple #[])∧R w'):
 Calls prog 88 #[.slice oa n cap,.func (.func g) #[] cb] w fun e w'=>e=.returned (.tuple #[])∧R w':=by
 go_enter func88,ntmps88;go_wp2_with (go_at_call 127;refine h.mono ?_;rintro e w1 ⟨rfl,hR⟩);go_end0;exact⟨rfl,hR⟩
theorem z42 (a:Option Addr)(c:Nat)(ops:List Hap)(B:Nat)(w:World)(hB:B≤w.heap.size)(hl:ops.length≤128)(hown:w.ownsRow B 181 11 (.slice a ops.length c) ops.length (hapRow ops)):
 Calls prog 127 #[.slice a ops.length c,.int .i64 ops.length,.func (.func 89) #[] #[]] w fun e w'=>e=.returned (.tuple #[])∧(HAt w' a (mgO ops)∧Below B w w'):=by
 by_cases h0:ops=[]
 ·subst h0;refine(zCb a c _ w).mono ?_;rintro e w' ⟨rfl,rfl⟩;exact⟨rfl,fun h=>absurd (List.eq_nil_of_length_eq_zero (zzV [])) h,zD⟩
 ·obtain⟨_,⟨h1,h2⟩|⟨g,cap,cur,h1,hg,hb,hcap,_,hsz,htk⟩⟩:=hown
  ·exact absurd (List.eq_nil_of_length_eq_zero h2) h0
  ·injection h1 with h1 _ h3;subst h1 h3;have hlen:=z5L ops;have hH:HoldsK hapCells 11 w g 0 ops.toArray:=by
    refine zfn hapCells 11 zsW ops.toArray hb ?_;intro i hi j hj;have hi':i<ops.length:=(by simpa using hi);rw[getElem!_pos ops.toArray i hi];have h5:=zTx ops i hi' j hj;rw[←htk,List.getElem?_take_of_lt (by omega)]at h5;rw[←Array.getElem?_toList,h5];simp
   have R:RowK hapCells 11 w g 0 ops.toArray:=⟨zsW,z5X,hH,zBq hb⟩;have hsz2:ops.toArray.size=ops.length:=(by simp);have eg:∀args w,(callFunc 89 args).run prog w=.ok (.enter 89 args) w:=enters_of func89 (by kernel_rfl) rfl;have hC:=zw5 g 0 ops.toArray.size w;have h:=zzz styH hapCells mgC 89 #[] g 0 c ops.toArray ops.toArray w w eg hC (zrl _ _ _ g c ops.toArray w eg hC R (by omega)) R rfl (SWK.start hH) (by omega);rw[hsz2]at h;refine h.mono ?_;rintro e w' ⟨rfl,hS⟩;refine⟨rfl,?_,zNp hS hg hB⟩;intro _;have hss:(zjN (ltOf mgC) ops.toArray).size=ops.toArray.size:=(zUI (lt:=ltOf mgC) (p:=fun _=>True) (d:=ops.toArray) (fun _=>trivial)).2;have hH2:=hS.holds R.hblk R.hH hss;refine⟨g,rfl,hS.lt R.hblk,?_⟩;intro j u hj;have hjl:j<(mgO ops).length*11:=(by rw[←z5L];exact(zB hj).1);have hq:j/11<(mgO ops).length:=(by omega);have hq2:j/11<(zjN (ltOf mgC) ops.toArray).size:=(by simpa [mgO]using hq);have h6:=(hH2 j (by rw[size_flatK];simpa [mgO]using hjl)).1;rw[Nat.zero_add]at h6;rw[h6,get_flatK hapCells 11 _ j (by simpa [mgO]using hjl)];have h7:=zTx (mgO ops) (j/11) hq (j%11) (Nat.mod_lt _ (by omega));rw[show j/11*11+j%11=j by omega,hj]at h7;rw[getElem!_pos (zjN (ltOf mgC) ops.toArray) (j/11) hq2];have h8:(mgO ops)[j/11]=(zjN (ltOf mgC) ops.toArray)[j/11]:=(by simp[mgO]);have h9:some u=(hapCells (zjN (ltOf mgC) ops.toArray)[j/11])[j%11]?:=h7.trans (congrArg (fun o=>(hapCells o)[j%11]?) h8);have h11:j%11<(hapCells (zjN (ltOf mgC) ops.toArray)[j/11]).length:=(by rw[zsW];omega);rw[getElem!_pos (hapCells (zjN (ltOf mgC) ops.toArray)[j/11]) (j%11) h11,h9,zC h11];rfl
open Go.RowKit
def LAt (w:World)(la:Option Addr)(ls:List (List OpV)):Prop:=ls≠[]→∃g,la=some ⟨g,0,none⟩∧g<w.heap.size∧∀j (h:j<ls.length),∃a c,w.cell? ⟨g,j,none⟩=some (.slice a ls[j].length c)∧OAt w a ls[j]
theorem LAt.below {w w':World}{la:Option Addr}{ls:List (List OpV)}(h:LAt w la ls)(k:Below w.heap.size w w'):LAt w' la ls:=by
 intro hne;obtain⟨g,h1,h2,h3⟩:=h hne;refine⟨g,h1,zH h2 k.size,fun j hj=>?_⟩;obtain⟨a,c,h4,h5⟩:=h3 j hj;exact⟨a,c,(k.cell (p:=⟨g,j,none⟩) h2).trans h4,h5.below k⟩
def allH (ls:List (List OpV)):List Hap:=ls.flatMap (fun l=>(hapsOf l).2)
theorem zQ7 (ls:List (List OpV))(j:Nat)(h:j<ls.length):allH (ls.take (j+1))=allH (ls.take j)++(hapsOf ls[j]).2:=by
 unfold allH;rw[List.take_succ_eq_append_getElem h,List.flatMap_append];simp
theorem ziY (l:List OpV):(hapsOf l).2.length=l.length:=by
 unfold hapsOf;have:∀(l:List OpV) (s:Int×List Hap),(l.foldl hapF s).2.length=s.2.length+l.length:=by
  intro l
  induction l with
  |nil=>intro s;simp
  |cons o t ih=>intro s;rw[List.foldl_cons,ih];simp[hapF];omega
 rw[this];simp
theorem zUf (ls:List (List OpV))(j:Nat):(allH (ls.take j)).length≤(allH ls).length:=by
 conv=>rhs;rw[←List.take_append_drop j ls]
 unfold allH;rw[List.flatMap_append,zI];omega
def mergeP (ls:List (List OpV)):List OpV:=(mgO (allH ls)).map (·.2)
theorem zZl (l:List Hap):∀u∈hapRow l,u.oneCell'=true:=by
 intro u hu;obtain⟨o,_,h⟩:=List.mem_flatMap.1 hu;exact z5X o u h
theorem zxb (W:World)(base:Nat)(a:Option Addr)(n c:Nat)(xs:List Value)(a2:Option Addr)(c2 B2:Nat)(l:List Hap)(h:W.ownsRow base 181 11 (.slice a n c) n xs)(h2:W.ownsRow B2 181 11 (.slice a2 l.length c2) l.length (hapRow l))(hn:n+l.length≤100000)(hb:base≤W.heap.size):
 ∃a' c' w',(Builtin.append_ #[177,177] 177 #[.slice a n c,.slice a2 l.length c2]).run prog W=.ok (.slice a' (n+l.length) c') w'∧w'.ownsRow base 181 11 (.slice a' (n+l.length) c') (n+l.length) (xs++hapRow l)∧Below base W w':=by
 obtain⟨i0,hi0',hz0,hz1,hz2⟩:=info_parts zVO;have hrow:∀g,(Value.slice a n c).ownBlock=some g→base≤g:=zYv h;obtain⟨_,⟨e1,e2⟩|⟨g,cap,cur,e1,hg,hbk,_,_,_,htk⟩⟩:=h2
 ·injection e1 with e1 e3 e4;have hl:l=[]:=List.eq_nil_of_length_eq_zero e2;subst e1 e4 hl;have hnc:n≤c:=by
   obtain⟨_,⟨e5,_⟩|⟨_,_,_,e5,_,_,e6,_⟩⟩:=h
   ·injection e5 with _ e7 e8;omega
   ·injection e5 with _ e7 e8;omega
  refine⟨a,c,W,?_,by simpa [hapRow]using h,zD⟩;cases a<;>simp[Builtin.append_,go_sem,hnc]
 ·injection e1 with e1 e3 e4;subst e1 e4;obtain⟨v7,w7,h1,h2,h3,_⟩:=run_append_own (P:=prog) W base 177 177 181 i0 _ 11 104 underlying177 hi0' hz0 hz1 hz2 rfl (by decide) (.slice a n c) n xs h ⟨g,0,none⟩ l.length c2 (hapRow l) (z5L l) (fun j u hj=>by
   have hlt:j<l.length*11:=(by rw[←z5L];exact(zB hj).1);rw[Addr.add_lit,Nat.zero_add,zBk hbk,←Array.getElem?_toList];rw[←htk,List.getElem?_take_of_lt hlt]at hj;exact hj) (zZl l) (by unfold maxLen;omega) (by omega) hb
  obtain⟨a',c',rfl⟩:=zIW h2;have hk:Kept (Value.slice a n c).ownBlock.toList W w7:=(Kept.refl _ W).grownS h3 (fun g' hg'=>by rw[hg'];simp);exact⟨a',c',w7,h1,h2,hk.below hb (fun g hg=>hrow g (by simpa using hg))⟩
theorem HAt.below {w w':World}{oa:Option Addr}{l:List Hap}(h:HAt w oa l)(k:Below w.heap.size w w'):HAt w' oa l:=by
 intro hne;obtain⟨g,h1,h2,h3⟩:=h hne;exact⟨g,h1,zH h2 k.size,fun j u hj=>(k.cell (p:=⟨g,j,none⟩) h2).trans (h3 j u hj)⟩
theorem zPq (mg:List Hap)(j:Nat)(h:j<mg.length):opsRow ((mg.take (j+1)).map (·.2))=opsRow ((mg.take j).map (·.2))++opvCells mg[j].2:=by
 rw[List.take_succ_eq_append_getElem h,List.map_append];exact z2L _ _
theorem zna (l l':List Hap):hapRow (l++l')=hapRow l++hapRow l':=by simp[hapRow]
theorem zCn (W:World)(base:Nat)(a:Option Addr)(n c:Nat)(xs:List Value)(a2:Option Addr)(c2 B2:Nat)(l:List OpV)(h:W.ownsRow base 181 11 (.slice a n c) n xs)(h2:W.ownsRow B2 181 11 (.slice a2 l.length c2) l.length (hapRow (hapsOf l).2))(hn:n+l.length≤100000)(hb:base≤W.heap.size):
 ∃a' c' w',(Builtin.append_ #[177,177] 177 #[.slice a n c,.slice a2 l.length c2]).run prog W=.ok (.slice a' (n+l.length) c') w'∧w'.ownsRow base 181 11 (.slice a' (n+l.length) c') (n+l.length) (xs++hapRow (hapsOf l).2)∧Below base W w':=by
 have e:=ziY l;have:=zxb W base a n c xs a2 c2 B2 (hapsOf l).2 h (by rw[e];exact h2) (by omega) hb;rw[e]at this;exact this
theorem zQl (la:Option Addr)(lc:Nat)(ls:List (List OpV))(w:World)(hr:LAt w la ls)(hl:(allH ls).length≤128)(hl2:∀l∈ls,l.length≤128)(hl3:ls.length≤1000):
 Calls prog 46 #[.slice la ls.length lc] w fun e w'=>∃a c,e=.returned (.slice a (mergeP ls).length c)∧OAt w' a (mergeP ls)∧Below w.heap.size w w':=by
 have hhp:=fun oa oc (l:List OpV) W (h:OAt W oa l) (h2:l.length≤128)=>zd6X oa oc l W h h2;have HH:=Hid.mk' hhp;have HL:=Hid.mk' hl;have HR:=Hid.mk' hr;clear hhp hl hr;go_enter func46,ntmps46;go_wp2;go_loopw [3,11] (fun s i wr=>∃(j:Nat) (a:Option Addr) (c:Nat),s=.slice a (allH (ls.take j)).length c∧i=.int .i64 (j:Int)∧j≤ls.length∧wr.ownsRow w.heap.size 181 11 (.slice a (allH (ls.take j)).length c) (allH (ls.take j)).length (hapRow (allH (ls.take j)))∧Below w.heap.size w wr) (fun _ i _=>ls.length-(intOf i).toNat)
 case atStart=>exact⟨0,none,0,rfl,rfl,Nat.zero_le _,World.ownsRow_nil _ _ _ _,zD⟩
 case round=>
  obtain⟨j,a,c,rfl,rfl,hj,hown,hbl⟩:=hrel;by_cases hin:j<ls.length
  ·have hin':(j:Int)<(ls.length:Int):=(by omega);have hne:ls≠[]:=(by intro h;rw[h]at hin;simp at hin);obtain⟨g,rfl,hg,hc⟩:=(HR.out.below hbl) hne;obtain⟨a1,c1,hcell,hO⟩:=hc j hin;have hT:=Hid.mk' (zQ7 ls j hin);have hlj:=hl2 _ (List.getElem_mem hin);have hcall:=HH.out a1 c1 ls[j] wr hO hlj;have hle:=zUf ls (j+1);rw[hT.out,zI,ziY]at hle;have hlenT:(allH (ls.take (j+1))).length=(allH (ls.take j)).length+ls[j].length:=(by rw[hT.out,zI,ziY]);have HT2:=Hid.mk' hlenT;have hl9:=HL.out;have HC:=Hid.mk' hc;have HON:=Hid.mk' (And.intro hown hbl);generalize hlx:ls[j]=lx at hcell hO hlj hcall hle HT2 hT;clear hlenT hown hbl hc hO hlx;go_wp2_with (first
    |(go_at_call 87;refine hcall.mono ?_;rintro e w3 ⟨a2,c2,rfl,h2,hb3⟩;have hown3:=zcc HON.out.1 (w':=w3) (fun g' hg'=>hb3.block g' (HON.out.1.lt g' hg').2);have hbl3:=HON.out.2.trans (hb3.mono HON.out.2.size);obtain⟨a',c',w7,hap,hown7,hb7⟩:=zCn w3 w.heap.size a _ c _ a2 c2 wr.heap.size lx hown3 h2 (by omega) hbl3.size;have HX:=Hid.mk' (And.intro hown7 (hbl3.trans hb7));clear hown3 hown7 h2 hb7 hb3 hbl3)
    | (at_builtin;refine zOu rfl _ _ 177 rfl _ _ _ _ rfl rfl hap ?_))
   go_roundw
   case rel=>exact⟨j+1,a',c',by rw[HT2.out],by go_num,by omega,by rw[HT2.out,hT.out,zna];exact HX.out.1,HX.out.2⟩
   case measure=>simp[intOf];omega
  ·have hin':¬(j:Int)<(ls.length:Int):=(by omega);obtain rfl:j=ls.length:=(by omega);rw[List.take_length]at hown⊢;obtain⟨i0,hi0',hz0,hz1,hz2⟩:=info_parts zSl;have hl9:=HL.out;have hsort:=zF8 a (allH ls).length c 89 #[] wr _ (z42 a c (allH ls) w.heap.size wr hbl.size HL.out hown);have hmk:=fun(W:World)=>run_make_own (P:=prog) W W.heap.size 26 74 i0 _ 10 underlying26 hi0' hz0 hz1 .i64 .i64 (allH ls).length (by rw[hz2];omega) (by unfold maxLen;omega) zG;have MK:=Hid.mk' hmk;have HBL:=Hid.mk' hbl;clear hmk hi0' hz0 hz1 hz2 hown hbl;go_wp2_with (go_at_call 88;refine hsort.mono ?_;rintro e w4 ⟨rfl,hH,hb4⟩;have hb4':=HBL.out.trans hb4;obtain⟨wm,hmk,hom,hgm⟩:=MK.out w4;have HM:=Hid.mk' (And.intro hom (And.intro hgm (And.intro hH hb4')));clear hom hgm hH hb4 hb4');obtain⟨hom,hgm,hH,hb4⟩:=HM.out;have hbm:Below w4.heap.size w4 wm:=((Kept.refl [] w4).grownS hgm (fun g' hg'=>by simp at hg')).below zG (by simp);have hmgl:(mgO (allH ls)).length=(allH ls).length:=zzV _;have HP:Hid (mergeP ls=(mgO (allH ls)).map (·.2)):=rfl;have HH2:=Hid.mk' (And.intro hH hb4);generalize hN:(allH ls).length=Nn at*;generalize mgO (allH ls)=mg at*;clear hsort hmk hgm HM MK HH hH hb4 HL HR HBL;go_loopw [6,27] (fun s i w9=>∃(j:Nat) (a5:Option Addr) (c5:Nat),s=.slice a5 j c5∧i=.int .i64 (j:Int)∧j≤Nn∧w9.ownsRow w4.heap.size 74 10 (.slice a5 j c5) j (opsRow ((mg.take j).map (·.2)))∧Below w4.heap.size w4 w9) (fun _ i _=>Nn-(intOf i).toNat)
   case atStart=>exact⟨0,_,_,rfl,rfl,by omega,hom,hbm⟩
   case round=>
    clear hom hbm;obtain⟨j,a5,c5,rfl,rfl,hj,hown,hbl⟩:=hrel;by_cases hin:j<Nn
    ·have hin':(j:Int)<(Nn:Int):=(by omega);have hne:mg≠[]:=(by intro h;rw[h]at hmgl;simp at hmgl;omega);have hjm:j<mg.length:=(by omega);obtain⟨gh,rfl,hgh,hco⟩:=(HH2.out.1.below hbl) hne;have hcell:∀c u,c<11→(hapCells mg[j])[c]?=some u→wr.cell? ⟨gh,j*11+c,none⟩=some u:=fun c u hcc hu=>hco _ _ ((zTx mg j hjm c hcc).trans hu);have hT:=Hid.mk' (zPq mg j hjm);generalize mg[j]=h at*;have q0:wr.cell? ⟨gh,j*11,none⟩=some (.int .i64 h.1):=hcell 0 _ (by omega) rfl;have q1:wr.cell? ⟨gh,j*11+1,none⟩=some (.int .i64 h.2.id):=hcell 1 _ (by omega) rfl;have q2:wr.cell? ⟨gh,j*11+2,none⟩=some (.int .i64 h.2.cl):=hcell 2 _ (by omega) rfl;have q3:wr.cell? ⟨gh,j*11+3,none⟩=some (.string ⟨h.2.name.toArray⟩):=hcell 3 _ (by omega) rfl;have q4:wr.cell? ⟨gh,j*11+4,none⟩=some (.string ⟨h.2.key.toArray⟩):=hcell 4 _ (by omega) rfl;have q5:wr.cell? ⟨gh,j*11+5,none⟩=some (.int .i64 h.2.arg):=hcell 5 _ (by omega) rfl;have q6:wr.cell? ⟨gh,j*11+6,none⟩=some (.int .i64 h.2.exp):=hcell 6 _ (by omega) rfl;have q7:wr.cell? ⟨gh,j*11+7,none⟩=some (.int .i64 h.2.call):=hcell 7 _ (by omega) rfl;have q8:wr.cell? ⟨gh,j*11+8,none⟩=some (.int .i64 h.2.ret):=hcell 8 _ (by omega) rfl;have q9:wr.cell? ⟨gh,j*11+9,none⟩=some (.int .i64 h.2.vk):=hcell 9 _ (by omega) rfl;have q10:wr.cell? ⟨gh,j*11+10,none⟩=some (.int .i64 h.2.vn):=hcell 10 _ (by omega) rfl;obtain⟨W0,hW0⟩:∃W0,wr.alloc (.cells #[.int .i64 h.1,.int .i64 h.2.id,.int .i64 h.2.cl,.string ⟨h.2.name.toArray⟩,.string ⟨h.2.key.toArray⟩,.int .i64 h.2.arg,.int .i64 h.2.exp,.int .i64 h.2.call,.int .i64 h.2.ret,.int .i64 h.2.vk,.int .i64 h.2.vn] 181)=W0:=⟨_,rfl⟩;have hb0:Below wr.heap.size wr W0:=(by rw[←hW0];exact zA _ _);have r0:W0.cell? ⟨wr.heap.size,0,none⟩=some (.int .i64 h.1):=(by rw[←hW0];simp);have r1:W0.cell? ⟨wr.heap.size,1,none⟩=some (.int .i64 h.2.id):=(by rw[←hW0];simp);have r2:W0.cell? ⟨wr.heap.size,2,none⟩=some (.int .i64 h.2.cl):=(by rw[←hW0];simp);have r3:W0.cell? ⟨wr.heap.size,3,none⟩=some (.string ⟨h.2.name.toArray⟩):=(by rw[←hW0];simp);have r4:W0.cell? ⟨wr.heap.size,4,none⟩=some (.string ⟨h.2.key.toArray⟩):=(by rw[←hW0];simp);have r5:W0.cell? ⟨wr.heap.size,5,none⟩=some (.int .i64 h.2.arg):=(by rw[←hW0];simp);have r6:W0.cell? ⟨wr.heap.size,6,none⟩=some (.int .i64 h.2.exp):=(by rw[←hW0];simp);have r7:W0.cell? ⟨wr.heap.size,7,none⟩=some (.int .i64 h.2.call):=(by rw[←hW0];simp);have r8:W0.cell? ⟨wr.heap.size,8,none⟩=some (.int .i64 h.2.ret):=(by rw[←hW0];simp);have r9:W0.cell? ⟨wr.heap.size,9,none⟩=some (.int .i64 h.2.vk):=(by rw[←hW0];simp);have r10:W0.cell? ⟨wr.heap.size,10,none⟩=some (.int .i64 h.2.vn):=(by rw[←hW0];simp);have hown0:W0.ownsRow w4.heap.size 74 10 (.slice a5 j c5) j (opsRow ((mg.take j).map (·.2))):=(by rw[←hW0];exact hown.alloc _);have hbl0:=hbl.trans (hb0.mono hbl.size);obtain⟨a',c',w7,hap,hown7,hb7⟩:=zpq W0 w4.heap.size a5 j c5 _ h.2 hown0 (by omega) hbl0.size;have HX:=Hid.mk' (And.intro hown7 (hbl0.trans hb7));clear hcell hco hown hown0 hbl hbl0 hown7 hb7 hb0;go_wp2_with (at_builtin;refine zOu rfl _ _ 26 rfl _ _ _ _ rfl rfl hap ?_);go_roundw
     case rel=>exact⟨j+1,a',c',rfl,by go_num,by omega,by rw[hT.out];exact HX.out.1,HX.out.2⟩
     case measure=>simp[intOf];omega
    ·have hin':¬(j:Int)<(Nn:Int):=(by omega);obtain rfl:j=Nn:=(by omega);have HX:=Hid.mk' (And.intro hown hbl);clear hown hbl;go_wp2;go_ret;have hl5:(mergeP ls).length=j:=(by rw[HP.out,List.length_map];exact hmgl);refine⟨a5,⟨c5,by rw[hl5];rfl⟩,?_,HH2.out.2.trans (HX.out.2.mono HH2.out.2.size)⟩;have h6:=HX.out.1;rw[show mg.take j=mg from List.take_of_length_le (by omega),←HP.out,←hl5]at h6;exact z6a h6
theorem zMB:(Tryz.prog.info? 26).map (fun i=>(i.zero,i.size,i.bytes))=some (some (.slice none 0 0),1,24):=by kernel_rfl
theorem zQW (W:World)(base:Nat)(a:Option Addr)(n c:Nat)(xs:List Value)(x:Option Addr)(k y:Nat)(h:W.ownsRow base 26 1 (.slice a n c) n xs)(hn:n≤3000000)(hb:base≤W.heap.size):ApR 26 99 1 W base a n c xs [.slice x k y]:=zUq zMB Tryz.underlying99 rfl (by decide) (by decide) rfl rfl h (by omega) hb
structure SL (base:Nat)(W:World)(a:Option Addr)(c:Nat)(acc:List (List OpV)):Prop where
 own:∃xs,W.ownsRow base 26 1 (.slice a acc.length c) acc.length xs∧∀k (h:k<acc.length),∃x y,xs[k]?=some (.slice x acc[k].length y)∧OAt W x acc[k]∧(acc[k]≠[]→∀g,x=some ⟨g,0,none⟩→(Value.slice a acc.length c).ownBlock≠some g)
theorem SL.start (base:Nat)(W:World):SL base W none 0 []:=⟨[],World.ownsRow_nil _ _ _ _,fun _ h=>absurd h (Nat.not_lt_zero _)⟩
theorem SL.below {base:Nat}{W W':World}{a:Option Addr}{c:Nat}{acc:List (List OpV)}(h:SL base W a c acc)(k:Below W.heap.size W W'):SL base W' a c acc:=by
 obtain⟨xs,h1,h2⟩:=h;refine⟨xs,zcc h1 (fun g hg=>k.block g (h1.lt g hg).2),fun j hj=>?_⟩;obtain⟨x,y,e1,e2,e3⟩:=h2 j hj;exact⟨x,y,e1,e2.below k,e3⟩
theorem SL.lat {base:Nat}{W:World}{a:Option Addr}{c:Nat}{acc:List (List OpV)}(h:SL base W a c acc):LAt W a acc:=by
 intro hne;obtain⟨xs,⟨h0,⟨_,h3⟩|⟨g,cap,cur,h3,hg,hb,_,_,_,htk⟩⟩,h2⟩:=h
 ·exact absurd (List.eq_nil_of_length_eq_zero h3) hne
 ·injection h3 with h3;subst h3;refine⟨g,rfl,zBq hb,fun j hj=>?_⟩;obtain⟨x,y,e1,e2,_⟩:=h2 j hj;refine⟨x,y,?_,e2⟩;rw[zBk hb,←Array.getElem?_toList];rw[←htk,List.getElem?_take_of_lt (by omega)]at e1;exact e1
theorem SL.snoc {base:Nat} {W w7:World} {a a':Option Addr} {c c':Nat} {acc:List (List OpV)} {xs:List Value} (h1:W.ownsRow base 26 1 (.slice a acc.length c) acc.length xs) (h2:∀k (h:k<acc.length),∃x y,xs[k]?=some (.slice x acc[k].length y)∧OAt W x acc[k]∧(acc[k]≠[]→∀g,x=some ⟨g,0,none⟩→(Value.slice a acc.length c).ownBlock≠some g)) (x:Option Addr) (y:Nat) (o:List OpV) (hO:OAt W x o) (hx:o≠[]→∀g,x=some ⟨g,0,none⟩→(Value.slice a acc.length c).ownBlock≠some g)
 (hown:w7.ownsRow base 26 1 (.slice a' (acc.length+1) c') (acc.length+1) (xs++[.slice x o.length y])) (hk:Kept (Value.slice a acc.length c).ownBlock.toList W w7)
 (hloc:(Value.slice a' (acc.length+1) c').ownBlock=(Value.slice a acc.length c).ownBlock∨∃g,(Value.slice a' (acc.length+1) c').ownBlock=some g∧W.heap.size≤g):SL base w7 a' c' (acc++[o]):=by
 have hstay:∀(z:Option Addr) (l:List OpV),OAt W z l→(l≠[]→∀g,z=some ⟨g,0,none⟩→(Value.slice a acc.length c).ownBlock≠some g)→OAt w7 z l∧(l≠[]→∀g,z=some ⟨g,0,none⟩→(Value.slice a' (acc.length+1) c').ownBlock≠some g):=by
  intro z l hz hd;refine⟨?_,?_⟩
  ·intro hne;obtain⟨g,e,hlt,hc⟩:=hz hne;have hn:=hd hne g e;refine⟨g,e,zH hlt hk.size,fun j u hj=>?_⟩;exact(hk.cell (p:=⟨g,j,none⟩) hlt (fun hm=>hn (by simpa using hm))).trans (hc j u hj)
  ·intro hne g e hq;obtain⟨g2,e2,hlt,_⟩:=hz hne;have:g2=g:=(by rw[e]at e2;injection e2 with e2;injection e2 with e2;exact e2.symm);subst this;rcases hloc with h9|⟨g3,h9,hge⟩
   ·exact hd hne g2 e (h9 ▸ hq)
   ·rw[h9]at hq;injection hq with hq;omega
 have hxl:xs.length=acc.length:=by have:=h1.1;omega
 refine⟨xs++[.slice x o.length y],?_,fun k hkk=>?_⟩
 ·rw[zI,List.length_singleton];exact hown
 ·rw[zI,List.length_singleton]at hkk⊢;by_cases hlt:k<acc.length
  ·obtain⟨z,y2,e1,e2,e3⟩:=h2 k hlt;have h9:=hstay z _ e2 e3;rw[List.getElem_append_left hlt];exact⟨z,y2,by rw[List.getElem?_append_left (by omega)];exact e1,h9.1,h9.2⟩
  ·obtain rfl:k=acc.length:=(by omega);have h9:=hstay x o hO hx;rw[List.getElem_append_right (by omega)];simp only [Nat.sub_self,List.getElem_singleton];exact⟨x,y,by rw[List.getElem?_append_right (by omega),hxl];simp,h9.1,h9.2⟩
def PAt (w:World)(pa:Option Addr)(ps:List (List UInt8×List OpV)):Prop:=ps≠[]→∃g,pa=some ⟨g,0,none⟩∧g<w.heap.size∧∀j (h:j<ps.length),∃a c,w.cell? ⟨g,j*2,none⟩=some (.string ⟨ps[j].1.toArray⟩)∧w.cell? ⟨g,j*2+1,none⟩=some (.slice a ps[j].2.length c)∧OAt w a ps[j].2
theorem PAt.below {w w':World}{pa:Option Addr}{ps:List (List UInt8×List OpV)}(h:PAt w pa ps)(k:Below w.heap.size w w'):PAt w' pa ps:=by
 intro hne;obtain⟨g,h1,h2,h3⟩:=h hne;refine⟨g,h1,zH h2 k.size,fun j hj=>?_⟩;obtain⟨a,c,h4,h5,h6⟩:=h3 j hj;exact⟨a,c,(k.cell (p:=⟨g,j*2,none⟩) h2).trans h4,(k.cell (p:=⟨g,j*2+1,none⟩) h2).trans h5,h6.below k⟩
def say (v:Nat×List UInt8×List (List OpV)):List UInt8:=
 if v.1=0 then [85,78,75,78,79,87,78,10]
 else if v.1=2 then [73,76,76,69,71,65,76,32,112,97,114,116,61]++v.2.1++[32,108,111,110,103,101,115,116,61]++idsT (v.2.2.headD [])++[10]
 else [79,75,32,111,114,100,101,114,61]++idsT (mergeP v.2.2)++[10]
def okId (o:OpV):Prop:= -9223372036854775808≤o.id∧o.id≤9223372036854775807
def sumL (ls:List (List OpV)):Nat:=(ls.map List.length).sum
structure JM (S:List OpV→Int→Out→Prop)(w:World)(ps:List (List UInt8×List OpV))(b:Int)(j:Nat)(b':Int)(a:Option Addr)(c:Nat)(acc:List (List OpV))(W:World):Prop where
 le:j≤ps.length
 rng: -9223372036854775808≤b'∧b'≤1000000
 sl:SL w.heap.size W a c acc
 below:Below w.heap.size w W
 cnt:acc.length≤j
 sum:sumL acc≤sumL ((ps.take j).map (·.2))
 all:∀l∈acc,l.length≤128∧∀o∈l,okId o
 jd:∀v,Judged S (ps.drop j) b' acc v→Judged S ps b [] v
theorem zb6 (a b:List UInt8):(⟨a.toArray⟩:ByteArray)++⟨b.toArray⟩=⟨(a++b).toArray⟩:=by
 apply ByteArray.ext;rw[ByteArray.data_append];simp
theorem zTw (ls:List (List OpV)):(allH ls).length=sumL ls:=by
 induction ls with
 |nil=>rfl
 |cons l t ih=>
   have e:allH (l::t)=(hapsOf l).2++allH t:=rfl;rw[e,zI,ih,ziY];unfold sumL;simp
theorem haps_mem (l:List OpV):∀h∈(hapsOf l).2,h.2∈l:=by
 have:∀(l:List OpV) (s:Int×List Hap),∀h∈(l.foldl hapF s).2,h∈s.2∨h.2∈l:=by
  intro l
  induction l with
  |nil=>intro s h hh;exact Or.inl hh
  |cons o t ih=>
    intro s h hh;rw[List.foldl_cons]at hh;rcases ih _ h hh with h1|h1
    ·rcases List.mem_append.1 h1 with h1|h1
     ·exact Or.inl h1
     ·rw[List.mem_singleton]at h1;subst h1;exact Or.inr (by simp)
    ·exact Or.inr (by simp[h1])
 intro h hh;rcases this l (0,[]) h hh with h1|h1
 ·simp at h1
 ·exact h1
theorem zHz {p:OpV→Prop}(ls:List (List OpV))(h0:p default)(h:∀l∈ls,∀o∈l,p o):∀o∈mergeP ls,p o:=by
 intro o ho;obtain⟨hp,hm,rfl⟩:=List.mem_map.1 ho;refine z2M (p:=fun h=>p h.2) (allH ls) h0 ?_ hp hm;intro x hx;obtain⟨l,hl,hxl⟩:=List.mem_flatMap.1 hx;exact h l hl _ (haps_mem l x hxl)
theorem zYf (ls:List (List OpV)):(mergeP ls).length=sumL ls:=by
 unfold mergeP;rw[List.length_map,zzV,zTw]
theorem zOP (ops:List OpV)(hl:ops.length≤128)(hid:∀o∈ops,okId o):(idsT ops).length≤100000:=by
 unfold idsT;cases ops with
 |nil=>simp[Lib.join]
 |cons o r=>
   rw[List.map_cons,Lib.join_length];have:=zZ4 (o::r) hid;simp only [List.map_cons,List.length_cons,List.length_map]at*;show 1*r.length+_≤_;omega
theorem zNe {α:Type}(l:List α)(j:Nat)(h:j<l.length):l.drop j=l[j]::l.drop (j+1):=List.drop_eq_getElem_cons h
inductive Mo
 | I
 | B
 | Q
 | P
 | L
def zhg (y:Mo):FuncId:=match y with|.I=>21|.B=>26|.Q=>25|.P=>23|.L=>27
def z7G (y:Mo):FuncId:=match y with|.I=>44|.B=>52|.Q=>51|.P=>47|.L=>53
def modT (y:Mo):TypeId:=match y with|.I=>54|.B=>64|.Q=>62|.P=>60|.L=>66
theorem zFa (y:Mo) {σ:Type} [DecidableEq σ] (doit:σ→OpV→σ×Int×Int) (s0:σ) (okA:OpV→Prop) (hold:World→Prop) (pa:Option Addr) (pc:Nat) (ps:List (List UInt8×List OpV)) (b:Int) (w:World) (hr:PAt w pa ps) (hb: -9223372036854775808≤b∧b≤1000000) (hps:∀q∈ps,q.2.length≤128∧q.1.length≤100000000∧∀o∈q.2,okA o∧okId o)
 (htot:sumL (ps.map (·.2))≤128) (hn:ps.length≤1000) (hp:Pow w) (hh:∀w',Below w.heap.size w w'→hold w')
 (hpart:∀(pa:Option Addr) (pc:Nat) (part:List OpV) (b:Int) (w:World),OAt w pa part→part.length≤128→ -9223372036854775808≤b∧b≤1000000→(∀o∈part,okA o)→hold w→
  Calls prog (z7G y) #[.agg #[],.slice pa part.length pc,.int .i64 b] w fun e w'=>∃r a c,Found doit (ordO part) s0 b r∧e=.returned (.agg #[.int .i64 (r.verdict:Int),.slice a r.order.length c,.int .i64 r.left])∧OAt w' a r.order∧Below w.heap.size w w'∧∀g,a=some ⟨g,0,none⟩→r.order≠[]→w.heap.size≤g):
 Calls prog (zhg y) #[.agg #[],.slice pa ps.length pc,.int .i64 b] w fun e w'=>∃v,Judged (fun p b r=>Found doit (ordO p) s0 b r) ps b [] v∧e=.returned (.string ⟨(say v).toArray⟩)∧Below w.heap.size w w':=by
 have HR:=Hid.mk' hr;have HPS:=Hid.mk' hps;have HT:=Hid.mk' htot;have HPW:=Hid.mk' hp;have HH:=Hid.mk' hh;have HP:=Hid.mk' hpart;have J0:Hid (JM (fun p b r=>Found doit (ordO p) s0 b r) w ps b 0 b none 0 [] (w.alloc (.cells #[] (modT y)))):=⟨Nat.zero_le _,hb,SL.start _ _,zA _ _,Nat.le_refl _,Nat.zero_le _,(fun l hl=>by cases hl),fun v h=>h⟩;clear hr hps htot hp hh hpart;cases y
 all_goals
  simp only [zhg]
  first|go_enter func21,ntmps21|go_enter func26,ntmps26|go_enter func25,ntmps25|go_enter func23,ntmps23|go_enter func27,ntmps27
  go_wp2;go_loopw [2,7,13] (fun s2 s7 s13 wr=>∃(j:Nat) (b':Int) (a:Option Addr) (c:Nat) (acc:List (List OpV)),s2=.int .i64 b'∧s7=.slice a acc.length c∧s13=.int .i64 (j:Int)∧Hid (JM (fun p b r=>Found doit (ordO p) s0 b r) w ps b j b' a c acc wr)) (fun _ _ i _=>ps.length-(intOf i).toNat)
  case atStart=>exact⟨0,b,none,0,[],rfl,rfl,rfl,J0⟩
  case round=>
   clear J0;obtain⟨j,b',a,c,acc,rfl,rfl,rfl,J1⟩:=hrel;by_cases hin:j<ps.length
   ·have hin':(j:Int)<(ps.length:Int):=(by omega);have hne:ps≠[]:=(by intro h;rw[h]at hin;simp at hin);obtain⟨g,rfl,hg,hc⟩:=(HR.out.below J1.out.below) hne;obtain⟨a1,c1,hc0,hc1,hO⟩:=hc j hin;obtain⟨hq1,hq2,hq3⟩:=HPS.out _ (List.getElem_mem hin);have HD:=Hid.mk' (zNe ps j hin);have hsum:Hid (sumL ((ps.take (j+1)).map (·.2))=sumL ((ps.take j).map (·.2))+ps[j].2.length):=by
     show _=_;rw[List.take_succ_eq_append_getElem hin];unfold sumL;rw[List.map_append,List.map_append,List.sum_append];simp
    generalize ps[j]=pt at*;obtain⟨nm,pp⟩:=pt;dsimp only at*;have hrng:=J1.out.rng;obtain⟨W0,hW0⟩:∃W0,wr.alloc (.cells #[.string ⟨nm.toArray⟩,.slice a1 pp.length c1] 101)=W0:=⟨_,rfl⟩;have hb0:Below wr.heap.size wr W0:=(by rw[←hW0];exact zA _ _);have k0:W0.cell? ⟨wr.heap.size,0,none⟩=some (.string ⟨nm.toArray⟩):=(by rw[←hW0];simp);have k1:W0.cell? ⟨wr.heap.size,1,none⟩=some (.slice a1 pp.length c1):=(by rw[←hW0];simp);have hsz0:wr.heap.size<W0.heap.size:=(by rw[←hW0];simp);have hcall:=HP.out a1 c1 pp b' W0 (hO.below hb0) hq1 hrng (fun o ho=>(hq3 o ho).1) (HH.out W0 (J1.out.below.trans (hb0.mono J1.out.below.size)));have HB0:=Hid.mk' hb0;have HQ:=Hid.mk' hq3;clear hO hq3 hb0;go_wp2_with fail;refine hcall.mono ?_;rintro e w2 ⟨r,a2,c2,hF,rfl,hO2,hb2,hg2⟩;obtain⟨h1,h2,h3,h4,h5⟩:=zzE (p:=okId) hq1 hF ⟨by decide,by decide⟩ (fun o ho=>(HQ.out o ho).2);obtain⟨vd,od,lf⟩:=r;dsimp only at*;have hv:vd=0∨vd=1∨vd=2:=(by omega);rcases hv with rfl|rfl|rfl
    ·obtain⟨W3,hW3⟩:∃W3,w2.alloc (.cells #[.int .i64 0,.slice a2 od.length c2,.int .i64 lf] 104)=W3:=⟨_,rfl⟩;have hb3:Below w2.heap.size w2 W3:=(by rw[←hW3];exact zA _ _);have hb03:Below W0.heap.size W0 W3:=hb2.trans (hb3.mono hb2.size);have hbr3:Below wr.heap.size wr W3:=HB0.out.trans (hb03.mono HB0.out.size);have hbw3:Below w.heap.size w W3:=J1.out.below.trans (hbr3.mono J1.out.below.size);have l0:W3.cell? ⟨wr.heap.size,0,none⟩=some (.string ⟨nm.toArray⟩):=(hb03.cell (p:=⟨wr.heap.size,0,none⟩) hsz0).trans k0;have n0:W3.cell? ⟨w2.heap.size,0,none⟩=some (.int .i64 0):=(by rw[←hW3];simp);have n1:W3.cell? ⟨w2.heap.size,1,none⟩=some (.slice a2 od.length c2):=(by rw[←hW3];simp);have n2:W3.cell? ⟨w2.heap.size,2,none⟩=some (.int .i64 lf):=(by rw[←hW3];simp);have hO3:=hO2.below hb3;have HX:=Hid.mk' (And.intro hF (And.intro hbr3 (And.intro hbw3 (And.intro hO3 (And.intro hb2 hg2)))));clear hF hbr3 hbw3 hO3 hO2 hb2 hb3 hb03 hg2 hcall hc0 hc1 k0 k1;go_wp2;go_ret;exact⟨(0,[],[]),J1.out.jd _ (by rw[HD.out];exact Judged.unknown nm pp _ b' acc _ HX.out.1 rfl),rfl,HX.out.2.2.1⟩
    ·obtain⟨W3,hW3⟩:∃W3,w2.alloc (.cells #[.int .i64 1,.slice a2 od.length c2,.int .i64 lf] 104)=W3:=⟨_,rfl⟩;have hb3:Below w2.heap.size w2 W3:=(by rw[←hW3];exact zA _ _);have hb03:Below W0.heap.size W0 W3:=hb2.trans (hb3.mono hb2.size);have hbr3:Below wr.heap.size wr W3:=HB0.out.trans (hb03.mono HB0.out.size);have hbw3:Below w.heap.size w W3:=J1.out.below.trans (hbr3.mono J1.out.below.size);have l0:W3.cell? ⟨wr.heap.size,0,none⟩=some (.string ⟨nm.toArray⟩):=(hb03.cell (p:=⟨wr.heap.size,0,none⟩) hsz0).trans k0;have n0:W3.cell? ⟨w2.heap.size,0,none⟩=some (.int .i64 1):=(by rw[←hW3];simp);have n1:W3.cell? ⟨w2.heap.size,1,none⟩=some (.slice a2 od.length c2):=(by rw[←hW3];simp);have n2:W3.cell? ⟨w2.heap.size,2,none⟩=some (.int .i64 lf):=(by rw[←hW3];simp);have hO3:=hO2.below hb3;have HX:=Hid.mk' (And.intro hF (And.intro hbr3 (And.intro hbw3 (And.intro hO3 (And.intro hb2 hg2)))));clear hF hbr3 hbw3 hO3 hO2 hb2 hb3 hb03 hg2 hcall hc0 hc1 k0 k1;have hsl:=J1.out.sl.below HX.out.2.1;obtain⟨xs,hx1,hx2⟩:=hsl;have hcn:=J1.out.cnt;obtain⟨a',c',w7,hap,hown7,hk7,hloc⟩:=zQW W3 w.heap.size a acc.length c xs a2 od.length c2 hx1 (by omega) HX.out.2.2.1.size;have J2:Hid (JM (fun p b r=>Found doit (ordO p) s0 b r) w ps b (j+1) lf a' c' (acc++[od]) w7):=by
      refine⟨by omega,by omega,SL.snoc hx1 hx2 a2 c2 od HX.out.2.2.2.1 ?_ hown7 hk7 hloc,HX.out.2.2.1.trans (hk7.below HX.out.2.2.1.size (fun g' hg'=>zYv hx1 g' (by simpa using hg'))),by simp;omega,?_,?_,?_⟩
      ·intro hne' g' e1 e2;have h7:=HX.out.2.2.2.2.2 g' e1 hne';obtain⟨xs0,hx0,_⟩:=J1.out.sl;have h8:=(hx0.lt g' e2).2;have h9:=HB0.out.size;omega
      ·have h7:=J1.out.sum;rw[hsum.out];have h8:sumL (acc++[od])=sumL acc+od.length:=(by unfold sumL;rw[List.map_append,List.sum_append];simp);rw[h8];exact Nat.add_le_add h7 h1
      ·intro l hl';rcases List.mem_append.1 hl' with hl'|hl'
       ·exact J1.out.all l hl'
       ·rw[List.mem_singleton]at hl';subst hl';exact⟨by omega,h2⟩
      ·intro v hv';refine J1.out.jd v ?_;rw[HD.out];exact Judged.next nm pp _ b' acc _ v HX.out.1 rfl hv'
     have m2:w7.cell? ⟨w2.heap.size,2,none⟩=some (.int .i64 lf):=by
      refine(hk7.cell (p:=⟨w2.heap.size,2,none⟩) (by rw[←hW3];simp) (fun hm=>?_)).trans n2;obtain⟨xs0,hx0,_⟩:=J1.out.sl;have h8:=(hx0.lt _ (by simpa using hm)).2;have h9:=HB0.out.size;have h10:=HX.out.2.2.2.2.1.size;omega
     have HJD:=Hid.mk' HX.out;clear hx1 hx2 hown7 hk7 hloc J1 hsum hc HX HQ HB0 HD HR h2 l0 hcn;go_wp2_with (at_builtin;refine zOu rfl _ _ 99 rfl _ _ _ _ rfl rfl hap ?_);go_roundw
     case rel=>exact⟨j+1,lf,a',c',acc++[od],rfl,by rw[zI];rfl,by go_num,J2⟩
     case measure=>simp[intOf];omega
    ·obtain⟨W3,hW3⟩:∃W3,w2.alloc (.cells #[.int .i64 2,.slice a2 od.length c2,.int .i64 lf] 104)=W3:=⟨_,rfl⟩;have hb3:Below w2.heap.size w2 W3:=(by rw[←hW3];exact zA _ _);have hb03:Below W0.heap.size W0 W3:=hb2.trans (hb3.mono hb2.size);have hbr3:Below wr.heap.size wr W3:=HB0.out.trans (hb03.mono HB0.out.size);have hbw3:Below w.heap.size w W3:=J1.out.below.trans (hbr3.mono J1.out.below.size);have l0:W3.cell? ⟨wr.heap.size,0,none⟩=some (.string ⟨nm.toArray⟩):=(hb03.cell (p:=⟨wr.heap.size,0,none⟩) hsz0).trans k0;have n0:W3.cell? ⟨w2.heap.size,0,none⟩=some (.int .i64 2):=(by rw[←hW3];simp);have n1:W3.cell? ⟨w2.heap.size,1,none⟩=some (.slice a2 od.length c2):=(by rw[←hW3];simp);have hO3:=hO2.below hb3;have hs3:w2.heap.size<W3.heap.size:=(by rw[←hW3];simp);have hs4:wr.heap.size<W3.heap.size:=(by have:=hb03.size;omega);have kl0:∀p:KeptBy W3,p.now.cell? ⟨wr.heap.size,0,none⟩=some (.string ⟨nm.toArray⟩):=fun p=>zLF (x:=⟨wr.heap.size,0,none⟩) hs4 l0 p;have kn1:∀p:KeptBy W3,p.now.cell? ⟨w2.heap.size,1,none⟩=some (.slice a2 od.length c2):=fun p=>zLF (x:=⟨w2.heap.size,1,none⟩) hs3 n1 p;have hpw3:Pow W3:=HPW.out.stays hbw3;have hids:∀p:KeptBy W3,_:=fun p=>ids_any a2 c2 od p.now (hO3.below p.h) (by omega) h2 (hpw3.stays p.h);have hil:=zOP od (by omega) h2;have hmix:prog.follows .mixedOrders=true:=(by kernel_rfl);have HJ:=Hid.mk' (J1.out.jd (2,nm,[od]) (by rw[HD.out];exact Judged.illegal nm pp _ b' acc ⟨2,od,lf⟩ hF rfl));have HSY:Hid (say (2,nm,[od])=[73,76,76,69,71,65,76,32,112,97,114,116,61]++nm++[32,108,111,110,103,101,115,116,61]++idsT od++[10]):=rfl;have HX:=Hid.mk' hbw3;clear hF hbr3 hbw3 hO3 hO2 hb2 hb3 hb03 hg2 hcall hc0 hc1 k0 k1 hpw3 J1 HD HR hc HQ HB0 hsum h2;generalize hTT:idsT od=TT at*;have s1:(9223372036854775807<13+nm.length)=False:=(by simp;omega);have s2:(9223372036854775807<13+nm.length+9)=False:=(by simp;omega);have s3:(9223372036854775807<13+nm.length+9+TT.length)=False:=(by simp;omega);have s4:(9223372036854775807<13+nm.length+9+TT.length+1)=False:=(by simp;omega);go_wp2_with fail;refine zhU hmix (by kernel_rfl) ?_
     repeat (refine z40z (fun K hK=>?_);go_simp;first|(refine hK _ ?_;clear hK K)|(apply Exists.intro;refine⟨fun _=>?_,hK _ ?_⟩;(go_at_call 45;refine zfm (hids _));clear hK K))
     refine zy7 ?_;intro _ hw';obtain⟨⟨w4,hb4⟩,rfl⟩:=hw';have HB4:=Hid.mk' hb4;clear hb4;go_wp2;go_ret;refine⟨(2,nm,[od]),HJ.out,?_,HX.out.trans (HB4.out.mono HX.out.size)⟩;rw[HSY.out,←zb6,←zb6,←zb6,←zb6];rfl
   ·have hin':¬(j:Int)<(ps.length:Int):=(by omega);obtain rfl:j=ps.length:=(by have:=J1.out.le;omega);have hj:=J1.out.jd (1,[],acc) (by rw[List.drop_length];exact Judged.ok b' acc);have hs1:=J1.out.sum;rw[List.take_length]at hs1;have hs2:=HT.out;have hcn:=J1.out.cnt;have hm:=zQl a c acc wr J1.out.sl.lat (by rw[zTw];omega) (fun l hl'=>(J1.out.all l hl').1) (by omega);have hml:=zYf acc;have hmo:=zHz (p:=okId) acc ⟨by decide,by decide⟩ (fun l hl'=>(J1.out.all l hl').2);have hil:=zOP (mergeP acc) (by omega) hmo;have hids:=fun x y W (hO:OAt W x (mergeP acc)) (hW:Pow W)=>ids_any x y (mergeP acc) W hO (by omega) hmo hW;have HI:=Hid.mk' hids;have HY:=Hid.mk' (And.intro hj J1.out.below);clear hids hj hs1 hs2 hml hmo J1;have HMG:Hid (say (1,[],acc)=[79,75,32,111,114,100,101,114,61]++idsT (mergeP acc)++[10]):=rfl;have hk9:(9223372036854775807<9+(idsT (mergeP acc)).length)=False:=(by simp;omega);have hk10:(9223372036854775807<9+(idsT (mergeP acc)).length+1)=False:=(by simp;omega);generalize hTT:idsT (mergeP acc)=TT at*;generalize hmg:mergeP acc=mg at*;clear hmg hTT;go_wp2_with fail;refine hm.mono ?_;rintro e w3 ⟨x,y,rfl,hO,hb3⟩;have hbw:Below w.heap.size w w3:=HY.out.2.trans (hb3.mono HY.out.2.size);have hi:=HI.out x y w3 hO (HPW.out.stays hbw);have HBW:=Hid.mk' hbw;clear hbw hm;go_wp2_with (go_at_call 45;refine hi.mono ?_;rintro e w4 ⟨rfl,hb4⟩;have HB4:=Hid.mk' hb4);go_ret;refine⟨(1,[],acc),HY.out.1,?_,HBW.out.trans (HB4.out.mono HBW.out.size)⟩;rw[HMG.out,←zb6,←zb6];rfl
theorem zlb (pa:Option Addr) (pc:Nat) (ps:List (List UInt8×List OpV)) (b:Int) (w:World) (hr:PAt w pa ps) (hb: -9223372036854775808≤b∧b≤1000000) (hps:∀q∈ps,q.2.length≤128∧q.1.length≤100000000∧∀o∈q.2,wfI o.arg∧okId o)
 (htot:sumL (ps.map (·.2))≤128) (hn:ps.length≤1000) (hp:Pow w):
 Calls prog 21 #[.agg #[],.slice pa ps.length pc,.int .i64 b] w fun e w'=>∃v,Judged (fun p b r=>Found zCI (ordO p) 0 b r) ps b [] v∧e=.returned (.string ⟨(say v).toArray⟩)∧Below w.heap.size w w':=
 zFa .I zCI 0 (fun o=>wfI o.arg) (fun _=>True) pa pc ps b w hr hb hps htot hn hp (fun _ _=>trivial) (fun pa pc part b w h1 h2 h3 h4 _=>z6C pa pc part b w h1 h2 h3 h4)
theorem zCt (pa:Option Addr) (pc:Nat) (ps:List (List UInt8×List OpV)) (b:Int) (w:World) (hr:PAt w pa ps) (hb: -9223372036854775808≤b∧b≤1000000) (hps:∀q∈ps,q.2.length≤128∧q.1.length≤100000000∧∀o∈q.2,wfI o.arg∧okId o)
 (htot:sumL (ps.map (·.2))≤128) (hn:ps.length≤1000) (hp:Pow w):
 Calls prog 26 #[.agg #[],.slice pa ps.length pc,.int .i64 b] w fun e w'=>∃v,Judged (fun p b r=>Found zqY (ordO p) false b r) ps b [] v∧e=.returned (.string ⟨(say v).toArray⟩)∧Below w.heap.size w w':=
 zFa .B zqY false (fun o=>wfI o.arg) (fun _=>True) pa pc ps b w hr hb hps htot hn hp (fun _ _=>trivial) (fun pa pc part b w h1 h2 h3 _ _=>zSE pa pc part b w h1 h2 h3)
theorem zQY (pa:Option Addr) (pc:Nat) (ps:List (List UInt8×List OpV)) (b:Int) (w:World) (hr:PAt w pa ps) (hb: -9223372036854775808≤b∧b≤1000000) (hps:∀q∈ps,q.2.length≤128∧q.1.length≤100000000∧∀o∈q.2,wfI o.arg∧okId o)
 (htot:sumL (ps.map (·.2))≤128) (hn:ps.length≤1000) (hp:Pow w) (hG:Glob w):
 Calls prog 25 #[.agg #[],.slice pa ps.length pc,.int .i64 b] w fun e w'=>∃v,Judged (fun p b r=>Found quDo (ordO p) [] b r) ps b [] v∧e=.returned (.string ⟨(say v).toArray⟩)∧Below w.heap.size w w':=
 zFa .Q quDo [] (fun o=>wfI o.arg) (fun w=>Glob w∧Pow w) pa pc ps b w hr hb hps htot hn hp (fun _ h=>⟨hG.below (h.mono hG.errs.lt),hp.stays h⟩) (fun pa pc part b w h1 h2 h3 h4 h5=>zSX pa pc part b w h1 h2 h3 h4 h5.1 h5.2)
theorem z0f (pa:Option Addr) (pc:Nat) (ps:List (List UInt8×List OpV)) (b:Int) (w:World) (hr:PAt w pa ps) (hb: -9223372036854775808≤b∧b≤1000000) (hps:∀q∈ps,q.2.length≤128∧q.1.length≤100000000∧∀o∈q.2,wfI o.arg∧okId o)
 (htot:sumL (ps.map (·.2))≤128) (hn:ps.length≤1000) (hp:Pow w):
 Calls prog 23 #[.agg #[],.slice pa ps.length pc,.int .i64 b] w fun e w'=>∃v,Judged (fun p b r=>Found stDo (ordO p) (false,0) b r) ps b [] v∧e=.returned (.string ⟨(say v).toArray⟩)∧Below w.heap.size w w':=
 zFa .P stDo (false,0) (fun o=>wfI o.arg) (fun _=>True) pa pc ps b w hr hb hps htot hn hp (fun _ _=>trivial) (fun pa pc part b w h1 h2 h3 h4 _=>zDU pa pc part b w h1 h2 h3 h4)
theorem zvN (pa:Option Addr) (pc:Nat) (ps:List (List UInt8×List OpV)) (b:Int) (w:World) (hr:PAt w pa ps) (hb: -9223372036854775808≤b∧b≤1000000) (hps:∀q∈ps,q.2.length≤128∧q.1.length≤100000000∧∀o∈q.2,wfI o.cl∧okId o)
 (htot:sumL (ps.map (·.2))≤128) (hn:ps.length≤1000) (hp:Pow w):
 Calls prog 27 #[.agg #[],.slice pa ps.length pc,.int .i64 b] w fun e w'=>∃v,Judged (fun p b r=>Found lkDo (ordO p) (false,0) b r) ps b [] v∧e=.returned (.string ⟨(say v).toArray⟩)∧Below w.heap.size w w':=
 zFa .L lkDo (false,0) (fun o=>wfI o.cl) (fun _=>True) pa pc ps b w hr hb hps htot hn hp (fun _ _=>trivial) (fun pa pc part b w h1 h2 h3 h4 _=>zpP pa pc part b w h1 h2 h3 h4)
theorem zjc (a:Option Addr)(c:Nat)(ops:List OpV)(w:World)(hr:OAt w a ops):
 Calls prog 22 #[.slice a ops.length c] w fun e w'=>e=.returned (.slice (some ⟨w.heap.size,0,none⟩) 1 1)∧PAt w' (some ⟨w.heap.size,0,none⟩) [([45],ops)]∧Below w.heap.size w w':=by
 refine(whole_any a ops.length c w).mono ?_;rintro e w' ⟨rfl,hb,hk⟩;refine⟨rfl,?_,hk⟩;intro _;have hs:w.heap.size<w'.heap.size:=(Array.getElem?_eq_some_iff.1 hb).1;refine⟨_,rfl,hs,fun j hj=>?_⟩;obtain rfl:j=0:=by simpa using hj
 refine⟨a,c,?_,?_,hr.below hk⟩
 ·show World.cell? w' ⟨w.heap.size,0,none⟩=_;simp[World.cell?,hb]
 ·show World.cell? w' ⟨w.heap.size,1,none⟩=_;simp[World.cell?,hb]
theorem zOm (a:Option Addr)(c:Nat)(ops:List OpV)(b:Int)(w:World)(hr:OAt w a ops)(hb: -9223372036854775808≤b∧b≤1000000)(hl:ops.length≤128)(ho:∀o∈ops,wfI o.arg∧okId o)(hp:Pow w):
 Calls prog 9 #[.string ⟨#[114,101,103,105,115,116,101,114]⟩,.slice a ops.length c,.int .i64 b] w fun e w'=>∃v,Judged (fun p b r=>Found zCI (ordO p) 0 b r) [([45],ops)] b [] v∧e=.returned (.string ⟨(say v).toArray⟩)∧Below w.heap.size w w':=by
 have hw:=zjc a c ops w hr;have HJ:=Hid.mk' (fun w' (h1:PAt w' (some ⟨w.heap.size,0,none⟩) [([45],ops)]) (h2:Pow w')=>zlb (some ⟨w.heap.size,0,none⟩) 1 [([45],ops)] b w' h1 hb (by intro q hq;rw[List.mem_singleton]at hq;subst hq;exact⟨hl,by simp,ho⟩) (by simpa [sumL]using hl) (by simp) h2);have HP:=Hid.mk' hp;clear hr ho hp;go_enter func9,ntmps9;go_wp2_with (go_at_call 22;refine hw.mono ?_;rintro e w2 ⟨rfl,h1,h2⟩;have h3:=HJ.out w2 h1 (HP.out.stays h2);have HB:=Hid.mk' h2;clear h1 h2);refine h3.mono ?_;rintro e w3 ⟨v,hv,rfl,hb3⟩;have HV:=Hid.mk' (And.intro hv hb3);clear hv hb3 h3;go_wp2;go_ret;exact⟨v,HV.out.1,rfl,HB.out.trans (HV.out.2.mono HB.out.size)⟩
end Go.Proofs.YtbbkihekjdffpaaGreatDoor.srch
