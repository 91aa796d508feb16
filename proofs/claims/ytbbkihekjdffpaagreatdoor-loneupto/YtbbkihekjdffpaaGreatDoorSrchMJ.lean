/- Several texts in one. -/
import Derived.Test.YtbbkihekjdffpaaGreatDoorSrchYI
set_option maxHeartbeats 2000000
set_option maxRecDepth 100000
namespace Go.Proofs.YtbbkihekjdffpaaGreatDoor.srch
open Go.RowKit Go.Shelf
open Go.Sort (swp size_swp grow grow_grow grow_empty alloc_eq_grow size_grow HoldsK flatK size_flatK get_flatK putRowK size_putRowK)
theorem z5L (l:List Hap):(hapRow l).length=l.length*11:=by
 induction l with
 | nil=>rfl
 | cons o r ih=>
   rw [show hapRow (o::r)=hapCells o++hapRow r from rfl,List.length_append,ih,List.length_cons]
   show 11+r.length*11=_
   omega
theorem zTx (ops:List Hap) (i:Nat) (h:i < ops.length):∀ c,c < 11→(hapRow ops)[i*11+c]?=(hapCells ops[i])[c]?:=by
 induction ops generalizing i with
 | nil=>simp at h
 | cons o r ih=>
   intro c hc
   have e:hapRow (o::r)=hapCells o++hapRow r:=by simp [hapRow]
   have hl:(hapCells o).length=11:=rfl
   rw [e]
   cases i with
   | zero=>simp only [Nat.zero_mul,Nat.zero_add,List.getElem_cons_zero];rw [List.getElem?_append_left (by omega)]
   | succ i=>
     rw [List.getElem?_append_right (by omega),hl,show (i+1)*11+c - 11=i*11+c by omega,ih i (by simpa using h) c hc]
     rfl
def HAt (w:World) (oa:Option Addr) (l:List Hap):Prop:=l≠[]→∃ g,oa=some ⟨g,0,none⟩∧g < w.heap.size∧∀ j u,(hapRow l)[j]?=some u→w.cell? ⟨g,j,none⟩=some u
def mgC (a b:Hap):Int:=cmpI a.1 b.1
def mgO (ops:List Hap):List Hap:=(zjN (ltOf mgC) ops.toArray).toList
theorem zzV (ops:List Hap):(mgO ops).length=ops.length:=by
 unfold mgO
 have:=(zUI (lt:=ltOf mgC) (p:=fun _=>True) (d:=ops.toArray) (fun _=>trivial)).2
 simpa using this
theorem z2M {p:Hap→Prop} (ops:List Hap) (h0:p default) (h:∀ o∈ops,p o):∀ o∈mgO ops,p o:=by
 have h1:AllP p ops.toArray:=by
  intro i
  by_cases hi:i < ops.length
  · rw [getElem!_pos _ _ (by simpa using hi)];exact h _ (by simp)
  · rw [getElem!_neg _ _ (by simpa using hi)];exact h0
 have h2:=(zUI (lt:=ltOf mgC) h1).1
 intro o ho
 obtain ⟨i,hi,rfl⟩:=List.getElem_of_mem ho
 have:=h2 i
 unfold mgO at hi
 rw [getElem!_pos _ _ (by simpa using hi)] at this
 simpa [mgO] using this
theorem zsW (o:Hap):(hapCells o).length=11:=rfl
theorem z5X (o:Hap):∀ v∈hapCells o,v.oneCell'=true:=by
 intro u h
 simp [hapCells,opvCells] at h
 rcases h with rfl | rfl | rfl | rfl | rfl | rfl | rfl | rfl | rfl | rfl | rfl <;> rfl
theorem zx5 (blk off size:Nat) (w:World):CmpLays Tryz.prog 89 #[] hapCells 11 mgC blk off size w:=by
 intro m os dk _ x y
 refine (zYc x y _).mono ?_
 rintro e w' ⟨rfl,h⟩
 exact ⟨rfl,h⟩
theorem zrl (g:Nat) (cb:Array Value) (cf:Hap→Hap→Int) (blk cap:Nat) (d0:Array Hap) (w0:World) (eg:∀ args w,(callFunc g args).run Tryz.prog w=.ok (.enter g args) w) (hcmp:CmpLays Tryz.prog g cb hapCells 11 cf blk 0 d0.size w0) (R:RowK hapCells 11 w0 blk 0 d0) (hsz:d0.size≤1000000) (a b:Nat) (d:Array Hap) (w:World) (hs:d0.size=d.size) (S:SWK hapCells 11 w0 blk 0 d w) (hab:a≤b) (hb:b≤d.size):
 Calls Tryz.prog 151 #[.slice (some ⟨blk,0,none⟩) d0.size cap,.int .i64 a,.int .i64 b,.func (.func g) #[] cb] w fun e w'=>e=.returned (.tuple #[])∧SWK hapCells 11 w0 blk 0 (Sort.insertionSort (ltOf cf) d a b) w':=by
 have hC:CmpLays Tryz.prog g cb hapCells 11 cf blk 0 d.size w:=fun m os dk hdk x y=>by
  obtain ⟨n0,os0,rfl⟩:=S
  rw [sortWorldK_on hapCells 11 w0 blk 0 n0 m d dk os0 os R.hblk hdk]
  exact hcmp _ _ dk (by omega) x y
 rw [hs]
 refine (AnyQ.insertionSortCmpFunc Tryz.insHap 11 Tryz.isAgg181 Tryz.sizeOf181 hapCells R.hk R.h1 cf g cb blk 0 cap a b d w eg hC (S.holds R.hblk R.hH hs.symm) (S.lt R.hblk) hab hb (by omega)).mono ?_
 rintro e w' ⟨rfl,n,os,rfl⟩
 exact ⟨rfl,SWK.on S R.hblk n _ os (zpf _ _ _ _)⟩
theorem zKk (oa:Option Addr) (cap:Nat) (fv:Value) (w:World):
 Calls Tryz.prog 151 #[.slice oa 0 cap,.int .i64 0,.int .i64 0,fv] w fun e w'=>e=.returned (.tuple #[])∧w'=w:=by
 go_enter Tryz.func151,Tryz.ntmps151
 go_wp2
 refine wp_loop_rounds 1 ?_
 rw [rounds_succ]
 go_wp2
 go_end0
 exact ⟨rfl,rfl⟩
theorem zCb (oa:Option Addr) (cap:Nat) (fv:Value) (w:World):
 Calls Tryz.prog 127 #[.slice oa 0 cap,.int .i64 0,fv] w fun e w'=>e=.returned (.tuple #[])∧w'=w:=by
 have hi:=fun W=>zKk oa cap fv W
 go_enter Tryz.func127,Tryz.ntmps127
 go_wp2
 refine wp_loop_rounds 1 ?_
 rw [rounds_succ]
 go_wp2_with (go_at_call 151;refine (hi _).mono ?_;rintro e w1 ⟨rfl,rfl⟩)
 refine wp_loop_rounds 1 ?_
 rw [rounds_succ]
 go_wp2
 go_end0
 exact ⟨rfl,rfl⟩
theorem zF8 (oa:Option Addr) (n cap:Nat) (g:Nat) (cb:Array Value) (w:World) (R:World→Prop)
 (h:Calls Tryz.prog 127 #[.slice oa n cap,.int .i64 n,.func (.func g) #[] cb] w fun e w'=>e=.returned (.tuple #[])∧R w'):
 Calls Tryz.prog 88 #[.slice oa n cap,.func (.func g) #[] cb] w fun e w'=>e=.returned (.tuple #[])∧R w':=by
 go_enter Tryz.func88,Tryz.ntmps88
 go_wp2_with (go_at_call 127;refine h.mono ?_;rintro e w1 ⟨rfl,hR⟩)
 go_end0
 exact ⟨rfl,hR⟩
theorem z42 (a:Option Addr) (c:Nat) (ops:List Hap) (B:Nat) (w:World) (hB:B≤w.heap.size) (hl:ops.length≤128) (hown:w.ownsRow B 181 11 (.slice a ops.length c) ops.length (hapRow ops)):
 Calls Tryz.prog 127 #[.slice a ops.length c,.int .i64 ops.length,.func (.func 89) #[] #[]] w fun e w'=>e=.returned (.tuple #[])∧(HAt w' a (mgO ops)∧Below B w w'):=by
 by_cases h0:ops=[]
 · subst h0
   refine (zCb a c _ w).mono ?_
   rintro e w' ⟨rfl,rfl⟩
   exact ⟨rfl,fun h=>absurd (List.eq_nil_of_length_eq_zero (zzV [])) h,Below.refl _ _⟩
 · obtain ⟨_,⟨h1,h2⟩ | ⟨g,cap,cur,h1,hg,hb,hcap,_,hsz,htk⟩⟩:=hown
   · exact absurd (List.eq_nil_of_length_eq_zero h2) h0
   · injection h1 with h1 _ h3
     subst h1 h3
     have hlen:=z5L ops
     have hH:HoldsK hapCells 11 w g 0 ops.toArray:=by
      refine zfn hapCells 11 zsW ops.toArray hb ?_
      intro i hi j hj
      have hi':i < ops.length:=by simpa using hi
      rw [getElem!_pos ops.toArray i hi]
      have h5:=zTx ops i hi' j hj
      rw [←htk,List.getElem?_take_of_lt (by omega)] at h5
      rw [←Array.getElem?_toList,h5]
      simp
     have R:RowK hapCells 11 w g 0 ops.toArray:=⟨zsW,z5X,hH,zBq hb⟩
     have hsz2:ops.toArray.size=ops.length:=by simp
     have eg:∀ args w,(callFunc 89 args).run Tryz.prog w=.ok (.enter 89 args) w:=enters_of Tryz.func89 (by kernel_rfl) rfl
     have hC:=zx5 g 0 ops.toArray.size w
     have h:=zzz styH hapCells mgC 89 #[] g 0 c ops.toArray ops.toArray w w eg hC (zrl _ _ _ g c ops.toArray w eg hC R (by omega)) R rfl (SWK.start hH) (by omega)
     rw [hsz2] at h
     refine h.mono ?_
     rintro e w' ⟨rfl,hS⟩
     refine ⟨rfl,?_,zNp hS hg hB⟩
     intro _
     have hss:(zjN (ltOf mgC) ops.toArray).size=ops.toArray.size:=(zUI (lt:=ltOf mgC) (p:=fun _=>True) (d:=ops.toArray) (fun _=>trivial)).2
     have hH2:=hS.holds R.hblk R.hH hss
     refine ⟨g,rfl,hS.lt R.hblk,?_⟩
     intro j u hj
     have hjl:j < (mgO ops).length*11:=by rw [←z5L];exact (List.getElem?_eq_some_iff.1 hj).1
     have hq:j / 11 < (mgO ops).length:=by omega
     have hq2:j / 11 < (zjN (ltOf mgC) ops.toArray).size:=by simpa [mgO] using hq
     have h6:=(hH2 j (by rw [size_flatK];simpa [mgO] using hjl)).1
     rw [Nat.zero_add] at h6
     rw [h6,get_flatK hapCells 11 _ j (by simpa [mgO] using hjl)]
     have h7:=zTx (mgO ops) (j / 11) hq (j % 11) (Nat.mod_lt _ (by omega))
     rw [show j / 11*11+j % 11=j by omega,hj] at h7
     rw [getElem!_pos (zjN (ltOf mgC) ops.toArray) (j / 11) hq2]
     have h8:(mgO ops)[j / 11]=(zjN (ltOf mgC) ops.toArray)[j / 11]:=by simp [mgO]
     have h9:some u=(hapCells (zjN (ltOf mgC) ops.toArray)[j / 11])[j % 11]?:=h7.trans (congrArg (fun o=>(hapCells o)[j % 11]?) h8)
     have h11:j % 11 < (hapCells (zjN (ltOf mgC) ops.toArray)[j / 11]).length:=by rw [zsW];omega
     rw [getElem!_pos (hapCells (zjN (ltOf mgC) ops.toArray)[j / 11]) (j % 11) h11,h9,List.getElem?_eq_getElem h11]
     rfl
end Go.Proofs.YtbbkihekjdffpaaGreatDoor.srch
namespace Go.Proofs.YtbbkihekjdffpaaGreatDoor.srch
open Go.RowKit
def LAt (w:World) (la:Option Addr) (ls:List (List OpV)):Prop:=ls≠[]→∃ g,la=some ⟨g,0,none⟩∧g < w.heap.size∧∀ j (h:j < ls.length),∃ a c,w.cell? ⟨g,j,none⟩=some (.slice a ls[j].length c)∧OAt w a ls[j]
theorem LAt.below {w w':World} {la:Option Addr} {ls:List (List OpV)} (h:LAt w la ls) (k:Below w.heap.size w w'):LAt w' la ls:=by
 intro hne
 obtain ⟨g,h1,h2,h3⟩:=h hne
 refine ⟨g,h1,Nat.lt_of_lt_of_le h2 k.size,fun j hj=>?_⟩
 obtain ⟨a,c,h4,h5⟩:=h3 j hj
 exact ⟨a,c,(k.cell (p:=⟨g,j,none⟩) h2).trans h4,h5.below k⟩
def allH (ls:List (List OpV)):List Hap:=ls.flatMap (fun l=>(hapsOf l).2)
theorem zQ7 (ls:List (List OpV)) (j:Nat) (h:j < ls.length):allH (ls.take (j+1))=allH (ls.take j)++(hapsOf ls[j]).2:=by
 unfold allH
 rw [List.take_succ_eq_append_getElem h,List.flatMap_append]
 simp
theorem ziY (l:List OpV):(hapsOf l).2.length=l.length:=by
 unfold hapsOf
 have:∀ (l:List OpV) (s:Int×List Hap),(l.foldl hapF s).2.length=s.2.length+l.length:=by
  intro l
  induction l with
  | nil=>intro s;simp
  | cons o t ih=>intro s;rw [List.foldl_cons,ih];simp [hapF];omega
 rw [this]
 simp
theorem zUf (ls:List (List OpV)) (j:Nat):(allH (ls.take j)).length≤(allH ls).length:=by
 conv=>rhs;rw [←List.take_append_drop j ls]
 unfold allH
 rw [List.flatMap_append,List.length_append]
 omega
def mergeP (ls:List (List OpV)):List OpV:=(mgO (allH ls)).map (·.2)
theorem zZl (l:List Hap):∀ u∈hapRow l,u.oneCell'=true:=by
 intro u hu
 obtain ⟨o,_,h⟩:=List.mem_flatMap.1 hu
 exact z5X o u h
theorem zxb (W:World) (base:Nat) (a:Option Addr) (n c:Nat) (xs:List Value) (a2:Option Addr) (c2 B2:Nat) (l:List Hap) (h:W.ownsRow base 181 11 (.slice a n c) n xs) (h2:W.ownsRow B2 181 11 (.slice a2 l.length c2) l.length (hapRow l)) (hn:n+l.length≤100000) (hb:base≤W.heap.size):
 ∃ a' c' w',(Builtin.append_ #[177,177] 177 #[.slice a n c,.slice a2 l.length c2]).run Tryz.prog W=.ok (.slice a' (n+l.length) c') w'∧w'.ownsRow base 181 11 (.slice a' (n+l.length) c') (n+l.length) (xs++hapRow l)∧Below base W w':=by
 obtain ⟨i0,hi0',hz0,hz1,hz2⟩:=info_parts zVO
 have hrow:∀ g,(Value.slice a n c).ownBlock=some g→base≤g:=zYv h
 obtain ⟨_,⟨e1,e2⟩ | ⟨g,cap,cur,e1,hg,hbk,_,_,_,htk⟩⟩:=h2
 · injection e1 with e1 e3 e4
   have hl:l=[]:=List.eq_nil_of_length_eq_zero e2
   subst e1 e4 hl
   have hnc:n≤c:=by
    obtain ⟨_,⟨e5,_⟩ | ⟨_,_,_,e5,_,_,e6,_⟩⟩:=h
    · injection e5 with _ e7 e8;omega
    · injection e5 with _ e7 e8;omega
   refine ⟨a,c,W,?_,by simpa [hapRow] using h,Below.refl _ _⟩
   cases a <;> simp [Builtin.append_,go_sem,hnc]
 · injection e1 with e1 e3 e4
   subst e1 e4
   obtain ⟨v7,w7,h1,h2,h3,_⟩:=run_append_own (P:=Tryz.prog) W base 177 177 181 i0 _ 11 104 Tryz.underlying177 hi0' hz0 hz1 hz2 rfl (by decide) (.slice a n c) n xs h ⟨g,0,none⟩ l.length c2 (hapRow l) (z5L l) (fun j u hj=>by
    have hlt:j < l.length*11:=by rw [←z5L];exact (List.getElem?_eq_some_iff.1 hj).1
    rw [Addr.add_lit,Nat.zero_add,zBk hbk,←Array.getElem?_toList]
    rw [←htk,List.getElem?_take_of_lt hlt] at hj
    exact hj) (zZl l) (by unfold maxLen;omega) (by omega) hb
   obtain ⟨a',c',rfl⟩:=zIW h2
   have hk:Kept (Value.slice a n c).ownBlock.toList W w7:=(Kept.refl _ W).grownS h3 (fun g' hg'=>by rw [hg'];simp)
   exact ⟨a',c',w7,h1,h2,hk.below hb (fun g hg=>hrow g (by simpa using hg))⟩
theorem HAt.below {w w':World} {oa:Option Addr} {l:List Hap} (h:HAt w oa l) (k:Below w.heap.size w w'):HAt w' oa l:=by
 intro hne
 obtain ⟨g,h1,h2,h3⟩:=h hne
 exact ⟨g,h1,Nat.lt_of_lt_of_le h2 k.size,fun j u hj=>(k.cell (p:=⟨g,j,none⟩) h2).trans (h3 j u hj)⟩
theorem zPq (mg:List Hap) (j:Nat) (h:j < mg.length):opsRow ((mg.take (j+1)).map (·.2))=opsRow ((mg.take j).map (·.2))++opvCells mg[j].2:=by
 rw [List.take_succ_eq_append_getElem h,List.map_append]
 exact z2L _ _
theorem zna (l l':List Hap):hapRow (l++l')=hapRow l++hapRow l':=by simp [hapRow]
theorem zCn (W:World) (base:Nat) (a:Option Addr) (n c:Nat) (xs:List Value) (a2:Option Addr) (c2 B2:Nat) (l:List OpV) (h:W.ownsRow base 181 11 (.slice a n c) n xs) (h2:W.ownsRow B2 181 11 (.slice a2 l.length c2) l.length (hapRow (hapsOf l).2)) (hn:n+l.length≤100000) (hb:base≤W.heap.size):
 ∃ a' c' w',(Builtin.append_ #[177,177] 177 #[.slice a n c,.slice a2 l.length c2]).run Tryz.prog W=.ok (.slice a' (n+l.length) c') w'∧w'.ownsRow base 181 11 (.slice a' (n+l.length) c') (n+l.length) (xs++hapRow (hapsOf l).2)∧Below base W w':=by
 have e:=ziY l
 have:=zxb W base a n c xs a2 c2 B2 (hapsOf l).2 h (by rw [e];exact h2) (by omega) hb
 rw [e] at this
 exact this
theorem zQl (la:Option Addr) (lc:Nat) (ls:List (List OpV)) (w:World) (hr:LAt w la ls) (hl:(allH ls).length≤128) (hl2:∀ l∈ls,l.length≤128) (hl3:ls.length≤1000):
 Calls Tryz.prog 46 #[.slice la ls.length lc] w fun e w'=>∃ a c,e=.returned (.slice a (mergeP ls).length c)∧OAt w' a (mergeP ls)∧Below w.heap.size w w':=by
 have hhp:=fun oa oc (l:List OpV) W (h:OAt W oa l) (h2:l.length≤128)=>zd6X oa oc l W h h2
 have HH:=Hid.mk' hhp
 have HL:=Hid.mk' hl
 have HR:=Hid.mk' hr
 clear hhp hl hr
 go_enter Tryz.func46,Tryz.ntmps46
 go_wp2
 go_loopw [3,11] (fun s i wr=>∃ (j:Nat) (a:Option Addr) (c:Nat),s=.slice a (allH (ls.take j)).length c∧i=.int .i64 (j:Int)∧j≤ls.length∧wr.ownsRow w.heap.size 181 11 (.slice a (allH (ls.take j)).length c) (allH (ls.take j)).length (hapRow (allH (ls.take j)))∧Below w.heap.size w wr) (fun _ i _=>ls.length - (intOf i).toNat)
 case atStart=>exact ⟨0,none,0,rfl,rfl,Nat.zero_le _,World.ownsRow_nil _ _ _ _,Below.refl _ _⟩
 case round=>
  obtain ⟨j,a,c,rfl,rfl,hj,hown,hbl⟩:=hrel
  by_cases hin:j < ls.length
  · have hin':(j:Int) < (ls.length:Int):=by omega
    have hne:ls≠[]:=by intro h;rw [h] at hin;simp at hin
    obtain ⟨g,rfl,hg,hc⟩:=(HR.out.below hbl) hne
    obtain ⟨a1,c1,hcell,hO⟩:=hc j hin
    have hT:=Hid.mk' (zQ7 ls j hin)
    have hlj:=hl2 _ (List.getElem_mem hin)
    have hcall:=HH.out a1 c1 ls[j] wr hO hlj
    have hle:=zUf ls (j+1)
    rw [hT.out,List.length_append,ziY] at hle
    have hlenT:(allH (ls.take (j+1))).length=(allH (ls.take j)).length+ls[j].length:=by rw [hT.out,List.length_append,ziY]
    have HT2:=Hid.mk' hlenT
    have hl9:=HL.out
    have HC:=Hid.mk' hc
    have HON:=Hid.mk' (And.intro hown hbl)
    generalize hlx:ls[j]=lx at hcell hO hlj hcall hle HT2 hT
    clear hlenT hown hbl hc hO hlx
    go_wp2_with (first
     | (go_at_call 87;refine hcall.mono ?_;rintro e w3 ⟨a2,c2,rfl,h2,hb3⟩;have hown3:=zcc HON.out.1 (w':=w3) (fun g' hg'=>hb3.block g' (HON.out.1.lt g' hg').2);have hbl3:=HON.out.2.trans (hb3.mono HON.out.2.size);obtain ⟨a',c',w7,hap,hown7,hb7⟩:=zCn w3 w.heap.size a _ c _ a2 c2 wr.heap.size lx hown3 h2 (by omega) hbl3.size;have HX:=Hid.mk' (And.intro hown7 (hbl3.trans hb7));clear hown3 hown7 h2 hb7 hb3 hbl3)
     | (at_builtin;refine zOu rfl _ _ 177 rfl _ _ _ _ rfl rfl hap ?_))
    go_roundw
    case rel=>exact ⟨j+1,a',c',by rw [HT2.out],by go_num,by omega,by rw [HT2.out,hT.out,zna];exact HX.out.1,HX.out.2⟩
    case measure=>simp [intOf];omega
  · have hin':¬ (j:Int) < (ls.length:Int):=by omega
    obtain rfl:j=ls.length:=by omega
    rw [List.take_length] at hown ⊢
    obtain ⟨i0,hi0',hz0,hz1,hz2⟩:=info_parts zSl
    have hl9:=HL.out
    have hsort:=zF8 a (allH ls).length c 89 #[] wr _ (z42 a c (allH ls) w.heap.size wr hbl.size HL.out hown)
    have hmk:=fun (W:World)=>run_make_own (P:=Tryz.prog) W W.heap.size 26 74 i0 _ 10 Tryz.underlying26 hi0' hz0 hz1 .i64 .i64 (allH ls).length (by rw [hz2];omega) (by unfold maxLen;omega) (Nat.le_refl _)
    have MK:=Hid.mk' hmk
    have HBL:=Hid.mk' hbl
    clear hmk hi0' hz0 hz1 hz2 hown hbl
    go_wp2_with (go_at_call 88;refine hsort.mono ?_;rintro e w4 ⟨rfl,hH,hb4⟩;have hb4':=HBL.out.trans hb4;obtain ⟨wm,hmk,hom,hgm⟩:=MK.out w4;have HM:=Hid.mk' (And.intro hom (And.intro hgm (And.intro hH hb4')));clear hom hgm hH hb4 hb4')
    obtain ⟨hom,hgm,hH,hb4⟩:=HM.out
    have hbm:Below w4.heap.size w4 wm:=((Kept.refl [] w4).grownS hgm (fun g' hg'=>by simp at hg')).below (Nat.le_refl _) (by simp)
    have hmgl:(mgO (allH ls)).length=(allH ls).length:=zzV _
    have HP:Hid (mergeP ls=(mgO (allH ls)).map (·.2)):=rfl
    have HH2:=Hid.mk' (And.intro hH hb4)
    generalize hN:(allH ls).length=Nn at*
    generalize mgO (allH ls)=mg at*
    clear hsort hmk hgm HM MK HH hH hb4 HL HR HBL
    go_loopw [6,27] (fun s i w9=>∃ (j:Nat) (a5:Option Addr) (c5:Nat),s=.slice a5 j c5∧i=.int .i64 (j:Int)∧j≤Nn∧w9.ownsRow w4.heap.size 74 10 (.slice a5 j c5) j (opsRow ((mg.take j).map (·.2)))∧Below w4.heap.size w4 w9) (fun _ i _=>Nn - (intOf i).toNat)
    case atStart=>exact ⟨0,_,_,rfl,rfl,by omega,hom,hbm⟩
    case round=>
     clear hom hbm
     obtain ⟨j,a5,c5,rfl,rfl,hj,hown,hbl⟩:=hrel
     by_cases hin:j < Nn
     · have hin':(j:Int) < (Nn:Int):=by omega
       have hne:mg≠[]:=by intro h;rw [h] at hmgl;simp at hmgl;omega
       have hjm:j < mg.length:=by omega
       obtain ⟨gh,rfl,hgh,hco⟩:=(HH2.out.1.below hbl) hne
       have hcell:∀ c u,c < 11→(hapCells mg[j])[c]?=some u→wr.cell? ⟨gh,j*11+c,none⟩=some u:=fun c u hcc hu=>hco _ _ ((zTx mg j hjm c hcc).trans hu)
       have hT:=Hid.mk' (zPq mg j hjm)
       generalize mg[j]=h at*
       have q0:wr.cell? ⟨gh,j*11,none⟩=some (.int .i64 h.1):=hcell 0 _ (by omega) rfl
       have q1:wr.cell? ⟨gh,j*11+1,none⟩=some (.int .i64 h.2.id):=hcell 1 _ (by omega) rfl
       have q2:wr.cell? ⟨gh,j*11+2,none⟩=some (.int .i64 h.2.cl):=hcell 2 _ (by omega) rfl
       have q3:wr.cell? ⟨gh,j*11+3,none⟩=some (.string ⟨h.2.name.toArray⟩):=hcell 3 _ (by omega) rfl
       have q4:wr.cell? ⟨gh,j*11+4,none⟩=some (.string ⟨h.2.key.toArray⟩):=hcell 4 _ (by omega) rfl
       have q5:wr.cell? ⟨gh,j*11+5,none⟩=some (.int .i64 h.2.arg):=hcell 5 _ (by omega) rfl
       have q6:wr.cell? ⟨gh,j*11+6,none⟩=some (.int .i64 h.2.exp):=hcell 6 _ (by omega) rfl
       have q7:wr.cell? ⟨gh,j*11+7,none⟩=some (.int .i64 h.2.call):=hcell 7 _ (by omega) rfl
       have q8:wr.cell? ⟨gh,j*11+8,none⟩=some (.int .i64 h.2.ret):=hcell 8 _ (by omega) rfl
       have q9:wr.cell? ⟨gh,j*11+9,none⟩=some (.int .i64 h.2.vk):=hcell 9 _ (by omega) rfl
       have q10:wr.cell? ⟨gh,j*11+10,none⟩=some (.int .i64 h.2.vn):=hcell 10 _ (by omega) rfl
       obtain ⟨W0,hW0⟩:∃ W0,wr.alloc (.cells #[.int .i64 h.1,.int .i64 h.2.id,.int .i64 h.2.cl,.string ⟨h.2.name.toArray⟩,.string ⟨h.2.key.toArray⟩,.int .i64 h.2.arg,.int .i64 h.2.exp,.int .i64 h.2.call,.int .i64 h.2.ret,.int .i64 h.2.vk,.int .i64 h.2.vn] 181)=W0:=⟨_,rfl⟩
       have hb0:Below wr.heap.size wr W0:=by rw [←hW0];exact (Below.refl _ _).alloc (Nat.le_refl _) _
       have r0:W0.cell? ⟨wr.heap.size,0,none⟩=some (.int .i64 h.1):=by rw [←hW0];simp
       have r1:W0.cell? ⟨wr.heap.size,1,none⟩=some (.int .i64 h.2.id):=by rw [←hW0];simp
       have r2:W0.cell? ⟨wr.heap.size,2,none⟩=some (.int .i64 h.2.cl):=by rw [←hW0];simp
       have r3:W0.cell? ⟨wr.heap.size,3,none⟩=some (.string ⟨h.2.name.toArray⟩):=by rw [←hW0];simp
       have r4:W0.cell? ⟨wr.heap.size,4,none⟩=some (.string ⟨h.2.key.toArray⟩):=by rw [←hW0];simp
       have r5:W0.cell? ⟨wr.heap.size,5,none⟩=some (.int .i64 h.2.arg):=by rw [←hW0];simp
       have r6:W0.cell? ⟨wr.heap.size,6,none⟩=some (.int .i64 h.2.exp):=by rw [←hW0];simp
       have r7:W0.cell? ⟨wr.heap.size,7,none⟩=some (.int .i64 h.2.call):=by rw [←hW0];simp
       have r8:W0.cell? ⟨wr.heap.size,8,none⟩=some (.int .i64 h.2.ret):=by rw [←hW0];simp
       have r9:W0.cell? ⟨wr.heap.size,9,none⟩=some (.int .i64 h.2.vk):=by rw [←hW0];simp
       have r10:W0.cell? ⟨wr.heap.size,10,none⟩=some (.int .i64 h.2.vn):=by rw [←hW0];simp
       have hown0:W0.ownsRow w4.heap.size 74 10 (.slice a5 j c5) j (opsRow ((mg.take j).map (·.2))):=by rw [←hW0];exact hown.alloc _
       have hbl0:=hbl.trans (hb0.mono hbl.size)
       obtain ⟨a',c',w7,hap,hown7,hb7⟩:=zpq W0 w4.heap.size a5 j c5 _ h.2 hown0 (by omega) hbl0.size
       have HX:=Hid.mk' (And.intro hown7 (hbl0.trans hb7))
       clear hcell hco hown hown0 hbl hbl0 hown7 hb7 hb0
       go_wp2_with (at_builtin;refine zOu rfl _ _ 26 rfl _ _ _ _ rfl rfl hap ?_)
       go_roundw
       case rel=>exact ⟨j+1,a',c',rfl,by go_num,by omega,by rw [hT.out];exact HX.out.1,HX.out.2⟩
       case measure=>simp [intOf];omega
     · have hin':¬ (j:Int) < (Nn:Int):=by omega
       obtain rfl:j=Nn:=by omega
       have HX:=Hid.mk' (And.intro hown hbl)
       clear hown hbl
       go_wp2
       go_ret
       have hl5:(mergeP ls).length=j:=by rw [HP.out,List.length_map];exact hmgl
       refine ⟨a5,⟨c5,by rw [hl5];rfl⟩,?_,HH2.out.2.trans (HX.out.2.mono HH2.out.2.size)⟩
       have h6:=HX.out.1
       rw [show mg.take j=mg from List.take_of_length_le (by omega),←HP.out,←hl5] at h6
       exact z6a h6
theorem zMB:(Tryz.prog.info? 26).map (fun i=>(i.zero,i.size,i.bytes))=some (some (.slice none 0 0),1,24):=by kernel_rfl
theorem zQW (W:World) (base:Nat) (a:Option Addr) (n c:Nat) (xs:List Value) (x:Option Addr) (k y:Nat) (h:W.ownsRow base 26 1 (.slice a n c) n xs) (hn:n≤3000000) (hb:base≤W.heap.size):
 ∃ a' c' w',(Builtin.append_ #[99,99] 99 #[.slice a n c,.slice (some ⟨W.heap.size,0,none⟩) 1 1]).run Tryz.prog (W.alloc (.cells #[.slice x k y] 26))=.ok (.slice a' (n+1) c') w'∧
  w'.ownsRow base 26 1 (.slice a' (n+1) c') (n+1) (xs++[.slice x k y])∧Kept (Value.slice a n c).ownBlock.toList W w'∧((Value.slice a' (n+1) c').ownBlock=(Value.slice a n c).ownBlock∨∃ g,(Value.slice a' (n+1) c').ownBlock=some g∧W.heap.size≤g):=by
 obtain ⟨i0,hi0',hz0,hz1,hz2⟩:=info_parts zMB
 obtain ⟨v7,w7,h1,h2,h3,_,h5⟩:=run_append_own_at (P:=Tryz.prog) (W.alloc (.cells ([.slice x k y]:List Value).toArray 26)) base 99 99 26 i0 _ 1 24 Tryz.underlying99 hi0' hz0 hz1 hz2 rfl (by decide) (.slice a n c) n xs (h.alloc _) ⟨W.heap.size,0,none⟩ 1 1 [.slice x k y] rfl (z9R W _ _) (by intro u hu;simp at hu;subst hu;rfl) (by unfold maxLen;omega) (by omega) (by simp;omega)
 obtain ⟨a',c',rfl⟩:=zIW h2
 have hk:Kept (Value.slice a n c).ownBlock.toList W w7:=((Kept.refl _ W).alloc _).grownS h3 (fun g' hg'=>by rw [hg'];simp)
 exact ⟨a',c',w7,h1,h2,hk,h5.imp id (fun e=>⟨_,e,by simp⟩)⟩
structure SL (base:Nat) (W:World) (a:Option Addr) (c:Nat) (acc:List (List OpV)):Prop where
 own:∃ xs,W.ownsRow base 26 1 (.slice a acc.length c) acc.length xs∧∀ k (h:k < acc.length),∃ x y,xs[k]?=some (.slice x acc[k].length y)∧OAt W x acc[k]∧(acc[k]≠[]→∀ g,x=some ⟨g,0,none⟩→(Value.slice a acc.length c).ownBlock≠some g)
theorem SL.start (base:Nat) (W:World):SL base W none 0 []:=⟨[],World.ownsRow_nil _ _ _ _,fun _ h=>absurd h (Nat.not_lt_zero _)⟩
theorem SL.below {base:Nat} {W W':World} {a:Option Addr} {c:Nat} {acc:List (List OpV)} (h:SL base W a c acc) (k:Below W.heap.size W W'):SL base W' a c acc:=by
 obtain ⟨xs,h1,h2⟩:=h
 refine ⟨xs,zcc h1 (fun g hg=>k.block g (h1.lt g hg).2),fun j hj=>?_⟩
 obtain ⟨x,y,e1,e2,e3⟩:=h2 j hj
 exact ⟨x,y,e1,e2.below k,e3⟩
theorem SL.lat {base:Nat} {W:World} {a:Option Addr} {c:Nat} {acc:List (List OpV)} (h:SL base W a c acc):LAt W a acc:=by
 intro hne
 obtain ⟨xs,⟨h0,⟨_,h3⟩ | ⟨g,cap,cur,h3,hg,hb,_,_,_,htk⟩⟩,h2⟩:=h
 · exact absurd (List.eq_nil_of_length_eq_zero h3) hne
 · injection h3 with h3
   subst h3
   refine ⟨g,rfl,zBq hb,fun j hj=>?_⟩
   obtain ⟨x,y,e1,e2,_⟩:=h2 j hj
   refine ⟨x,y,?_,e2⟩
   rw [zBk hb,←Array.getElem?_toList]
   rw [←htk,List.getElem?_take_of_lt (by omega)] at e1
   exact e1
theorem SL.snoc {base:Nat} {W w7:World} {a a':Option Addr} {c c':Nat} {acc:List (List OpV)} {xs:List Value} (h1:W.ownsRow base 26 1 (.slice a acc.length c) acc.length xs) (h2:∀ k (h:k < acc.length),∃ x y,xs[k]?=some (.slice x acc[k].length y)∧OAt W x acc[k]∧(acc[k]≠[]→∀ g,x=some ⟨g,0,none⟩→(Value.slice a acc.length c).ownBlock≠some g)) (x:Option Addr) (y:Nat) (o:List OpV) (hO:OAt W x o) (hx:o≠[]→∀ g,x=some ⟨g,0,none⟩→(Value.slice a acc.length c).ownBlock≠some g)
 (hown:w7.ownsRow base 26 1 (.slice a' (acc.length+1) c') (acc.length+1) (xs++[.slice x o.length y])) (hk:Kept (Value.slice a acc.length c).ownBlock.toList W w7)
 (hloc:(Value.slice a' (acc.length+1) c').ownBlock=(Value.slice a acc.length c).ownBlock∨∃ g,(Value.slice a' (acc.length+1) c').ownBlock=some g∧W.heap.size≤g):SL base w7 a' c' (acc++[o]):=by
 have hstay:∀ (z:Option Addr) (l:List OpV),OAt W z l→(l≠[]→∀ g,z=some ⟨g,0,none⟩→(Value.slice a acc.length c).ownBlock≠some g)→OAt w7 z l∧(l≠[]→∀ g,z=some ⟨g,0,none⟩→(Value.slice a' (acc.length+1) c').ownBlock≠some g):=by
  intro z l hz hd
  refine ⟨?_,?_⟩
  · intro hne
    obtain ⟨g,e,hlt,hc⟩:=hz hne
    have hn:=hd hne g e
    refine ⟨g,e,Nat.lt_of_lt_of_le hlt hk.size,fun j u hj=>?_⟩
    exact (hk.cell (p:=⟨g,j,none⟩) hlt (fun hm=>hn (by simpa using hm))).trans (hc j u hj)
  · intro hne g e hq
    obtain ⟨g2,e2,hlt,_⟩:=hz hne
    have:g2=g:=by rw [e] at e2;injection e2 with e2;injection e2 with e2;exact e2.symm
    subst this
    rcases hloc with h9 | ⟨g3,h9,hge⟩
    · exact hd hne g2 e (h9 ▸ hq)
    · rw [h9] at hq;injection hq with hq;omega
 have hxl:xs.length=acc.length:=by have:=h1.1;omega
 refine ⟨xs++[.slice x o.length y],?_,fun k hkk=>?_⟩
 · rw [List.length_append,List.length_singleton]
   exact hown
 · rw [List.length_append,List.length_singleton] at hkk ⊢
   by_cases hlt:k < acc.length
   · obtain ⟨z,y2,e1,e2,e3⟩:=h2 k hlt
     have h9:=hstay z _ e2 e3
     rw [List.getElem_append_left hlt]
     exact ⟨z,y2,by rw [List.getElem?_append_left (by omega)];exact e1,h9.1,h9.2⟩
   · obtain rfl:k=acc.length:=by omega
     have h9:=hstay x o hO hx
     rw [List.getElem_append_right (by omega)]
     simp only [Nat.sub_self,List.getElem_singleton]
     exact ⟨x,y,by rw [List.getElem?_append_right (by omega),hxl];simp,h9.1,h9.2⟩
def PAt (w:World) (pa:Option Addr) (ps:List (List UInt8×List OpV)):Prop:=ps≠[]→∃ g,pa=some ⟨g,0,none⟩∧g < w.heap.size∧∀ j (h:j < ps.length),∃ a c,w.cell? ⟨g,j*2,none⟩=some (.string ⟨ps[j].1.toArray⟩)∧w.cell? ⟨g,j*2+1,none⟩=some (.slice a ps[j].2.length c)∧OAt w a ps[j].2
theorem PAt.below {w w':World} {pa:Option Addr} {ps:List (List UInt8×List OpV)} (h:PAt w pa ps) (k:Below w.heap.size w w'):PAt w' pa ps:=by
 intro hne
 obtain ⟨g,h1,h2,h3⟩:=h hne
 refine ⟨g,h1,Nat.lt_of_lt_of_le h2 k.size,fun j hj=>?_⟩
 obtain ⟨a,c,h4,h5,h6⟩:=h3 j hj
 exact ⟨a,c,(k.cell (p:=⟨g,j*2,none⟩) h2).trans h4,(k.cell (p:=⟨g,j*2+1,none⟩) h2).trans h5,h6.below k⟩
def say (v:Nat×List UInt8×List (List OpV)):List UInt8:=
 if v.1=0 then [85,78,75,78,79,87,78,10]
 else if v.1=2 then [73,76,76,69,71,65,76,32,112,97,114,116,61]++v.2.1++[32,108,111,110,103,101,115,116,61]++idsT (v.2.2.headD [])++[10]
 else [79,75,32,111,114,100,101,114,61]++idsT (mergeP v.2.2)++[10]
end Go.Proofs.YtbbkihekjdffpaaGreatDoor.srch
