/- Several texts in one. -/
import Derived.Test.YtbbkihekjdffpaaGreatDoorSrchSZ3
import Derived.DeepKeys4
import Derived.Laws.Closers25b
import Derived.ScopeJumps
import Derived.WideKeyEntry
set_option maxHeartbeats 1000000
set_option maxRecDepth 100000
namespace Go.Proofs.YtbbkihekjdffpaaGreatDoor.srch
open Tryz
open Go.RowKit Go.Shelf
open Go.Sort (swp size_swp grow grow_grow grow_empty alloc_eq_grow size_grow HoldsK flatK size_flatK get_flatK putRowK size_putRowK)
instance opvInh:Inhabited OpV:=⟨⟨0,0,[],[],0,0,0,0,0,0⟩⟩
section
variable {α:Type} [Inhabited α]
theorem zfn (enc:α→List Value) (k:Nat) (hk:∀x,(enc x).length=k) {w:World} {g:Nat} {c:Array Value} {t:TypeId} (d:Array α) (h:w.heap[g]?=some (.cells c t (0,0)))
 (hc:∀i (_:i<d.size) (j:Nat),j<k→c[i*k+j]?=(enc d[i]!)[j]?):HoldsK enc k w g 0 d:=by
 intro j hj;rw[size_flatK]at hj;have hk0:0<k:=by
  rcases Nat.eq_zero_or_pos k with h0|h0
  ·rw[h0]at hj;omega
  ·exact h0
 have hq:j/k<d.size:=Nat.div_lt_of_lt_mul (by rw[Nat.mul_comm];exact hj);have hm:j%k<k:=Nat.mod_lt _ hk0;refine⟨?_,by rw[Nat.zero_add];exact zBn h j⟩;rw[Nat.zero_add,zBk h j,get_flatK enc k d j hj];have e:j/k*k+j%k=j:=by rw[Nat.mul_comm];exact Nat.div_add_mod j k
 have:=hc (j/k) hq (j%k) hm;rw[e]at this;have hl:j%k<(enc d[j/k]!).length:=by rw[hk];exact hm
 rw[this,zC hl,getElem!_pos (enc d[j/k]!) (j%k) hl];rfl
theorem zNp {enc:α→List Value}{k:Nat}{w0 W:World}{blk off:Nat}{dk:Array α}(h:SWK enc k w0 blk off dk W){B:Nat}(h1:B≤blk)(h2:B≤w0.heap.size):Below B w0 W:=by
 obtain⟨n,os,rfl⟩:=h;refine⟨rfl,rfl,rfl,by unfold sortWorldK;rw[size_grow,size_putRowK];exact Nat.le_add_right _ _,fun j hj=>?_⟩;show((w0.heap.modify blk _)++os)[j]?=_;rw[Array.getElem?_append_left (by simp;omega),Array.getElem?_modify,if_neg (by omega)]
end
def ordC (a b:OpV):Int:=cmpI (zSA a) (zSA b)
def ordO (ops:List OpV):List OpV:=(zjN (ltOf ordC) ops.toArray).toList
theorem zYV (ops:List OpV):(ordO ops).length=ops.length:=by
 unfold ordO;have:=(zUI (lt:=ltOf ordC) (p:=fun _=>True) (d:=ops.toArray) (fun _=>trivial)).2;simpa using this
theorem zRPi {p:OpV→Prop}(ops:List OpV)(h0:p default)(h:∀o∈ops,p o):∀o∈ordO ops,p o:=by
 have h1:AllP p ops.toArray:=by
  intro i;by_cases hi:i<ops.length
  ·rw[getElem!_pos _ _ (by simpa using hi)];exact h _ (by simp)
  ·rw[getElem!_neg _ _ (by simpa using hi)];exact h0
 have h2:=(zUI (lt:=ltOf ordC) h1).1;intro o ho;obtain⟨i,hi,rfl⟩:=List.getElem_of_mem ho;have:=h2 i;unfold ordO at hi;rw[getElem!_pos _ _ (by simpa using hi)]at this;simpa [ordO]using this
theorem z1Z (o:OpV):(opvCells o).length=10:=rfl
theorem zuh (o:OpV):∀v∈opvCells o,v.oneCell'=true:=by
 intro u h;simp[opvCells]at h;rcases h with rfl|rfl|rfl|rfl|rfl|rfl|rfl|rfl|rfl|rfl<;>rfl
theorem z8eW (blk off size:Nat)(w:World):CmpLays prog 124 #[] opvCells 10 ordC blk off size w:=by
 intro m os dk _ x y;refine(zOb x y _).mono ?_;rintro e w' ⟨rfl,h⟩;exact⟨rfl,h⟩
theorem zhB (g:Nat)(cb:Array Value)(cf:OpV→OpV→Int)(blk cap:Nat)(d0:Array OpV)(w0:World)(eg:∀args w,(callFunc g args).run prog w=.ok (.enter g args) w)(hcmp:CmpLays prog g cb opvCells 10 cf blk 0 d0.size w0)(R:RowK opvCells 10 w0 blk 0 d0)(hsz:d0.size≤1000000)(a b:Nat)(d:Array OpV)(w:World)(hs:d0.size=d.size)(S:SWK opvCells 10 w0 blk 0 d w)(hab:a≤b)(hb:b≤d.size):
 Calls prog 171 #[.slice (some ⟨blk,0,none⟩) d0.size cap,.int .i64 a,.int .i64 b,.func (.func g) #[] cb] w fun e w'=>e=.returned (.tuple #[])∧SWK opvCells 10 w0 blk 0 (Sort.insertionSort (ltOf cf) d a b) w':=by
 have hC:CmpLays prog g cb opvCells 10 cf blk 0 d.size w:=fun m os dk hdk x y=>by
  obtain⟨n0,os0,rfl⟩:=S;rw[sortWorldK_on opvCells 10 w0 blk 0 n0 m d dk os0 os R.hblk hdk];exact hcmp _ _ dk (by omega) x y
 rw[hs];refine(AnyQ.insertionSortCmpFunc Tryz.insOp 10 Tryz.isAgg74 Tryz.sizeOf74 opvCells R.hk R.h1 cf g cb blk 0 cap a b d w eg hC (S.holds R.hblk R.hH hs.symm) (S.lt R.hblk) hab hb (by omega)).mono ?_;rintro e w' ⟨rfl,n,os,rfl⟩;exact⟨rfl,SWK.on S R.hblk n _ os (zpf _ _ _ _)⟩
theorem zRZ (oa:Option Addr)(cap:Nat)(fv:Value)(w:World):
 Calls prog 171 #[.slice oa 0 cap,.int .i64 0,.int .i64 0,fv] w fun e w'=>e=.returned (.tuple #[])∧w'=w:=by
 go_enter func171,ntmps171;go_wp2;refine wp_loop_rounds 1 ?_;rw[rounds_succ];go_wp2;go_end0;exact⟨rfl,rfl⟩
theorem zxs (oa:Option Addr)(cap:Nat)(fv:Value)(w:World):
 Calls prog 149 #[.slice oa 0 cap,.int .i64 0,fv] w fun e w'=>e=.returned (.tuple #[])∧w'=w:=by
 have hi:=fun W=>zRZ oa cap fv W;go_enter func149,ntmps149;go_wp2;refine wp_loop_rounds 1 ?_;rw[rounds_succ];go_wp2_with (go_at_call 171;refine(hi _).mono ?_;rintro e w1 ⟨rfl,rfl⟩);refine wp_loop_rounds 1 ?_;rw[rounds_succ];go_wp2;go_end0;exact⟨rfl,rfl⟩
theorem z8a (oa:Option Addr) (n cap:Nat) (g:Nat) (cb:Array Value) (w:World) (R:World→Prop)
 (h:Calls prog 149 #[.slice oa n cap,.int .i64 n,.func (.func g) #[] cb] w fun e w'=>e=.returned (.tuple #[])∧R w'):
 Calls prog 123 #[.slice oa n cap,.func (.func g) #[] cb] w fun e w'=>e=.returned (.tuple #[])∧R w':=by
 go_enter func123,ntmps123;go_wp2_with (go_at_call 149;refine h.mono ?_;rintro e w1 ⟨rfl,hR⟩);go_end0;exact⟨rfl,hR⟩
theorem zUu (a:Option Addr)(c:Nat)(ops:List OpV)(B:Nat)(w:World)(hB:B≤w.heap.size)(hl:ops.length≤128)(hown:w.ownsRow B 74 10 (.slice a ops.length c) ops.length (opsRow ops)):
 Calls prog 149 #[.slice a ops.length c,.int .i64 ops.length,.func (.func 124) #[] #[]] w fun e w'=>e=.returned (.tuple #[])∧(OAt w' a (ordO ops)∧Below B w w'):=by
 by_cases h0:ops=[]
 ·subst h0;refine(zxs a c _ w).mono ?_;rintro e w' ⟨rfl,rfl⟩;exact⟨rfl,fun h=>absurd (List.eq_nil_of_length_eq_zero (zYV [])) h,zD⟩
 ·obtain⟨_,⟨h1,h2⟩|⟨g,cap,cur,h1,hg,hb,hcap,_,hsz,htk⟩⟩:=hown
  ·exact absurd (List.eq_nil_of_length_eq_zero h2) h0
  ·injection h1 with h1 _ h3;subst h1 h3;have hlen:=zFI ops;have hH:HoldsK opvCells 10 w g 0 ops.toArray:=by
    refine zfn opvCells 10 z1Z ops.toArray hb ?_;intro i hi j hj;have hi':i<ops.length:=(by simpa using hi);rw[getElem!_pos ops.toArray i hi];have h5:=zvc ops i hi' j hj;rw[←htk,List.getElem?_take_of_lt (by omega)]at h5;rw[←Array.getElem?_toList,h5];simp
   have R:RowK opvCells 10 w g 0 ops.toArray:=⟨z1Z,zuh,hH,zBq hb⟩;have hsz2:ops.toArray.size=ops.length:=(by simp);have eg:∀args w,(callFunc 124 args).run prog w=.ok (.enter 124 args) w:=enters_of func124 (by kernel_rfl) rfl;have hC:=z8eW g 0 ops.toArray.size w;have h:=zzz styO opvCells ordC 124 #[] g 0 c ops.toArray ops.toArray w w eg hC (zhB _ _ _ g c ops.toArray w eg hC R (by omega)) R rfl (SWK.start hH) (by omega);rw[hsz2]at h;refine h.mono ?_;rintro e w' ⟨rfl,hS⟩;refine⟨rfl,?_,zNp hS hg hB⟩;intro _;have hss:(zjN (ltOf ordC) ops.toArray).size=ops.toArray.size:=(zUI (lt:=ltOf ordC) (p:=fun _=>True) (d:=ops.toArray) (fun _=>trivial)).2;have hH2:=hS.holds R.hblk R.hH hss;refine⟨g,rfl,hS.lt R.hblk,?_⟩;intro j u hj;have hjl:j<(ordO ops).length*10:=(by rw[←zFI];exact(zB hj).1);have hq:j/10<(ordO ops).length:=(by omega);have hq2:j/10<(zjN (ltOf ordC) ops.toArray).size:=(by simpa [ordO]using hq);have h6:=(hH2 j (by rw[size_flatK];simpa [ordO]using hjl)).1;rw[Nat.zero_add]at h6;rw[h6,get_flatK opvCells 10 _ j (by simpa [ordO]using hjl)];have h7:=zvc (ordO ops) (j/10) hq (j%10) (Nat.mod_lt _ (by omega));rw[show j/10*10+j%10=j by omega,hj]at h7;rw[getElem!_pos (zjN (ltOf ordC) ops.toArray) (j/10) hq2];have h8:(ordO ops)[j/10]=(zjN (ltOf ordC) ops.toArray)[j/10]:=(by simp[ordO]);have h9:some u=(opvCells (zjN (ltOf ordC) ops.toArray)[j/10])[j%10]?:=h7.trans (congrArg (fun o=>(opvCells o)[j%10]?) h8);have h10:j%10<(opvCells (zjN (ltOf ordC) ops.toArray)[j/10]).length:=(by rw[z1Z];omega);rw[getElem!_pos (opvCells (zjN (ltOf ordC) ops.toArray)[j/10]) (j%10) h10,h9,zC h10];rfl
theorem zWm (oa:Option Addr)(cap:Nat)(ops:List OpV)(w:World)(hr:OAt w oa ops)(hl:ops.length≤128):
 Calls prog 77 #[.slice oa ops.length cap] w fun e w'=>∃a c,e=.returned (.slice a ops.length c)∧OAt w' a (ordO ops)∧Below w.heap.size w w'∧∀g,a=some ⟨g,0,none⟩→w.heap.size≤g:=by
 have hc:=zR8 oa cap ops w hr hl;have hs:=fun(a:Option Addr) (c:Nat) (W:World) (hB:w.heap.size≤W.heap.size) (hown:W.ownsRow w.heap.size 74 10 (.slice a ops.length c) ops.length (opsRow ops))=>z8a a ops.length c 124 #[] W _ (zUu a c ops w.heap.size W hB hl hown);have HS:=Hid.mk' hs;clear hs hr;go_enter func77,ntmps77;go_wp2_with (first
  |(go_at_call 122;refine hc.mono ?_;rintro e w1 ⟨a,c,rfl,hown,hb1⟩;have hs1:=HS.out a c w1 hb1.size hown;have HB1:=Hid.mk' hb1;have HG:=Hid.mk' (show ∀g,a=some ⟨g,0,none⟩→w.heap.size≤g from fun g e=>zYv hown g (by rw[e];rfl));clear hown hb1)
  | (go_at_call 123;refine hs1.mono ?_;rintro e w2 ⟨rfl,hO,hb2⟩;have HO:=Hid.mk' hO;have HB2:=Hid.mk' hb2;clear hO hb2))
 go_ret;exact⟨a,c,rfl,HO.out,HB1.out.trans HB2.out,HG.out⟩
open Go.RowKit
def zLM (J:Nat→Act→World→Prop)(Q:Exit→Act→World→Prop):Exit→Act→World→Prop
 |.goto l,a,w=>J l a w
 |e,a,w=>Q e a w
theorem zcM {J:Nat→Act→World→Prop}{Q:Exit→Act→World→Prop}{a:Act}{w:World}:zLM J Q .ret a w=Q .ret a w:=rfl
theorem zXw {J:Nat→Act→World→Prop}{Q:Exit→Act→World→Prop}{a:Act}{w:World}(l:Nat):zLM J Q (.goto l) a w=J l a w:=rfl
theorem z1v {P:Program} {a:Act} {w:World} {Q:Exit→Act→World→Prop} {c:Code} (J:Nat→Nat→Act→World→Prop)
 (first:c.wp P (zLM (fun l a' w'=>∃n,J l n a' w') Q) a w)
 (pass:∀l n a w,J l n a w→∃rest,findLabel c l=some rest∧rest.wp P (zLM (fun l' a' w'=>∃n',n'<n∧J l' n' a' w') Q) a w):(Code.scope c).wp P Q a w:=by
 intro b k cs;have key:∀n l a w,J l n a w→∃e a' w',Q e a' w'∧∀rest,findLabel c l=some rest→Arrives P (lone (b.at a (.code rest::.inScope c::k)) cs w) b k cs e a' w':=by
  intro n
  induction n using Nat.strongRecOn with
  |_ n ih=>
    intro l a w hJ;obtain⟨rest,hf,hw⟩:=pass l n a w hJ;obtain⟨e,a₁,w₁,hq,harr⟩:=hw b (.inScope c::k) cs;have hr:∀rest',findLabel c l=some rest'→rest'=rest:=fun r' h=>(by rw[hf]at h;injection h with h;exact h.symm);cases e with
    |normal=>exact⟨.normal,a₁,w₁,hq,fun r' h=>by rw[hr r' h];exact Steps.trans harr (.one step_inScope)⟩
    |exit id=>exact⟨.exit id,a₁,w₁,hq,fun r' h=>by rw[hr r' h];exact fun k' hk=>harr k' (by simp[exitTo,hk])⟩
    |goto l'=>
      obtain⟨n',hlt,hJ'⟩:=hq;obtain⟨e₂,a₂,w₂,hq₂,harr₂⟩:=ih n' hlt l' a₁ w₁ hJ';obtain⟨rest',hf',_⟩:=pass l' n' a₁ w₁ hJ';have hg:gotoIn l' (.inScope c::k)=some (.code rest'::.inScope c::k):=(by simp[gotoIn,hf']);exact⟨e₂,a₂,w₂,hq₂,fun r' h=>by rw[hr r' h];exact .of_steps (harr _ hg) (harr₂ rest' hf')⟩
    |ret=>exact⟨_,a₁,w₁,hq,fun r' h=>by rw[hr r' h];exact harr⟩
    |panic ch=>exact⟨_,a₁,w₁,hq,fun r' h=>by rw[hr r' h];exact harr⟩
    |outgrown=>exact⟨_,a₁,w₁,hq,fun r' h=>by rw[hr r' h];exact harr⟩
 obtain⟨e,a₁,w₁,hq,harr⟩:=first b (.inScope c::k) cs
 cases e with
 |normal=>exact⟨.normal,a₁,w₁,hq,.head step_scope (Steps.trans harr (.one step_inScope))⟩
 |exit id=>exact⟨.exit id,a₁,w₁,hq,fun k' hk=>.head step_scope (harr k' (by simp[exitTo,hk]))⟩
 |goto l'=>
   obtain⟨n,hJ'⟩:=hq;obtain⟨e₂,a₂,w₂,hq₂,harr₂⟩:=key n l' a₁ w₁ hJ';obtain⟨rest',hf',_⟩:=pass l' n a₁ w₁ hJ';have hg:gotoIn l' (.inScope c::k)=some (.code rest'::.inScope c::k):=(by simp[gotoIn,hf']);exact⟨e₂,a₂,w₂,hq₂,.of_steps (.head step_scope (harr _ hg)) (harr₂ rest' hf')⟩
 |ret=>exact⟨_,a₁,w₁,hq,.of_steps (.one step_scope) harr⟩
 |panic ch=>exact⟨_,a₁,w₁,hq,.of_steps (.one step_scope) harr⟩
 |outgrown=>exact⟨_,a₁,w₁,hq,.of_steps (.one step_scope) harr⟩
section
variable {σ:Type} [DecidableEq σ] (doit:σ→OpV→σ×Int×Int) (ops:List OpV)
theorem zXF (o:OpV)(m:Mch σ):(look doit ops o m).2.way.length≤m.way.length+1:=by
 unfold look;split
 ·exact Nat.le_succ _
 ·dsimp only;split
  ·exact Nat.le_succ _
  ·split
   ·exact Nat.le_succ _
   ·simp
theorem zYk (f:Nat):∀(b:Int) (fo:Bool) (m:Mch σ),4*b.toNat+2*m.way.length+(if fo then 1 else 0)<f→∃r,srun doit ops f b fo m=some r:=by
 induction f with
 |zero=>intro b fo m h;exact absurd h (Nat.not_lt_zero _)
 |succ f ih=>
   intro b fo m h;cases fo with
   |true=>
     unfold srun;split
     ·exact⟨_,rfl⟩
     ·exact ih _ _ _ (by simp at h⊢;omega)
   |false=>
     unfold srun;cases ho:ops[m.place]? with
     |some o=>
       dsimp only;split
       ·exact⟨_,rfl⟩
       ·have hw:=zXF doit ops o m;refine ih _ _ _ ?_;have h2:(if(look doit ops o m).1=true then 1 else 0)≤1:=(by split<;>omega);simp at h;omega
     |none=>
       dsimp only;cases hl:m.way.getLast? with
       |none=>exact⟨_,rfl⟩
       |some s=>
         dsimp only;refine ih _ _ _ ?_;have hne:m.way≠[]:=(by intro h0;rw[h0]at hl;simp at hl);have:=List.length_pos_iff.2 hne;simp at h⊢;omega
theorem Found.ends (s0:σ)(b:Int):∃r,Found doit ops s0 b r:=by
 obtain⟨r,h⟩:=zYk doit ops (4*b.toNat+2) b true ⟨((0,0),s0),[],[],0,[]⟩ (by simp);exact⟨r,_,h⟩
end
open Go.RowKit Go.Maps
open Go.WideMaps (KeyLaw)
theorem zz4 {w w':World}{k:TypeId}{b n sz:Nat}{f:Lit→Option Value}(h:MapFn w k b n sz f)(e:w'.heap[b]?=w.heap[b]?):MapFn w' k b n sz f:=by
 obtain⟨D,⟨es,clock,h1,h2⟩,r⟩:=h;exact⟨D,⟨es,clock,e.trans h1,h2⟩,r⟩
theorem zUR {w:World} {k e t:TypeId} {b n sz:Nat} {f:Lit→Option Value} (h:MapFn w k b n sz f) (K:KeyLaw prog k) (ht:prog.underlying t=some (.map k e)) {z:Value} (hz:∀u:World,(zeroValue e).run prog u=.ok z u) (hn:n<maxLen)
 {key:Value} {kl:Lit} (hkey:keyOf prog k key=some kl):
 ∃(st:Nat) (w1:World),(Instr.mapEntry t (.map (some b)) key).run prog w=.ok (.tuple #[(f kl).getD z,goInt st]) w1∧(Instr.lookup t (.map (some b)) key false).run prog w=.ok ((f kl).getD z) w∧Kept [b] w w1∧w1.heap.size=w.heap.size∧
  (Instr.lookup t (.map (some b)) key false).run prog w1=.ok ((f kl).getD z) w1∧
  ∀(val:Value) (g:Lit→Option Value),g kl=some val→(∀x,x≠kl→g x=f x)→∃w3,(Instr.entryStore t (.map (some b)) (goInt st) val).run prog w1=.ok () w3∧MapFn w3 k b (n+1) (if(f kl).isSome then sz else sz+1) g∧Kept [b] w w3∧w3.heap.size=w.heap.size:=by
 classical
 have hl:=h.run1 (Keyed.of_law K) ht (hz w) hkey;have hput:=fun(val:Value) g h1 h2=>h.runPut (Keyed.of_law K) ht hn val hkey ((Keyed.of_law K).key hkey) g h1 h2;have h0:=h;obtain⟨D,⟨es,clock,hb,F,_⟩,_⟩:=h0;obtain⟨v0,st,es1,clock1,hE,hv,hS⟩:=WideElems.entry_then_store K ht hz hb F hkey;have hlen:∀o:Obj,(ChangeMaps.setBlock w b o).heap.size=w.heap.size:=fun o=>by simp[ChangeMaps.setBlock]
 have hkp:∀o:Obj,Kept [b] w (ChangeMaps.setBlock w b o):=fun o=>⟨rfl,rfl,rfl,Nat.le_of_eq (hlen o).symm,fun i _ hi=>ChangeMaps.heap_setBlock_other hb _ (fun e=>hi (by simp[e]))⟩;have key2:v0=(f kl).getD z∧∃f1 n1 sz1,MapFn (ChangeMaps.setBlock w b (.map es1 clock1)) k b n1 sz1 f1∧(f1 kl).getD z=(f kl).getD z:=by
  rcases K.find w hkey es.toList F.keys with ⟨h1,h2⟩|⟨j,e0,h1,h2,h3⟩
  ·have hl2:(Instr.lookup t (.map (some b)) key false).run prog w=.ok z w:=by
    simp[Instr.lookup,run_underlying ht,MapKept.run_getObj_map hb,K.check w _ hkey,h1,hz,Result.andThen]
   rw[hl]at hl2;injection hl2 with hz2;have hE2:(Instr.mapEntry t (.map (some b)) key).run prog w=.ok (.tuple #[z,goInt clock]) (ChangeMaps.setBlock w b (.map (es.push ⟨key,z,clock⟩) (clock+1))):=by
    simp[Instr.mapEntry,run_underlying ht,MapKept.run_getObj_map hb,K.check w false hkey,h1,hz,MapKept.run_setObj_map _ hb,Result.andThen,ChangeMaps.setBlock]
   have hU:(Instr.mapUpdate t (.map (some b)) key z).run prog w=.ok () (ChangeMaps.setBlock w b (.map (es.push ⟨key,z,clock⟩) (clock+1))):=by
    simp[Instr.mapUpdate,run_underlying ht,MapKept.run_getObj_map hb,K.check w false hkey,h1,MapKept.run_setObj_map _ hb,Result.andThen,ChangeMaps.setBlock]
   obtain⟨w',hr,hM,_⟩:=hput z (fun x=>if x=kl then some z else f x) (by simp) (fun x hx=>by simp[hx]);rw[hU]at hr;injection hr with _ hr;rw[hE]at hE2;injection hE2 with hv2 hw2;injection hv2 with hv2;have hv3:v0=z:=(List.cons.inj (congrArg Array.toList hv2)).1;refine⟨by rw[hv3,hz2],_,_,_,by rw[hw2,hr];exact hM,by simp[hz2]⟩
  ·have hl2:(Instr.lookup t (.map (some b)) key false).run prog w=.ok e0.val w:=by
    simp[Instr.lookup,run_underlying ht,MapKept.run_getObj_map hb,K.check w _ hkey,h1,Result.andThen]
   rw[hl]at hl2;injection hl2 with hz2;have hj:es[j]?=some e0:=(by simpa using h2);have hsame:es.modify j (fun e=>{ e with key:=key })=es:=by
    apply Array.ext';rw[Array.toList_modify,ChangeMaps.modify_eq_set _ _ _ _ h2];have:({ e0 with key:=key }:MapEntry)=e0:=(by rw[←h3]);rw[this];exact WideElems.set_self _ _ _ h2
   have hE2:(Instr.mapEntry t (.map (some b)) key).run prog w=.ok (.tuple #[e0.val,goInt e0.born]) (ChangeMaps.setBlock w b (.map es clock)):=by
    simp[Instr.mapEntry,run_underlying ht,MapKept.run_getObj_map hb,K.check w false hkey,h1,hj,h3,K.stays w hkey,hsame,MapKept.run_setObj_map _ hb,Result.andThen,ChangeMaps.setBlock]
   rw[hE]at hE2;injection hE2 with hv2 hw2;injection hv2 with hv2;have hv3:v0=e0.val:=(List.cons.inj (congrArg Array.toList hv2)).1;refine⟨by rw[hv3,hz2],f,n,sz,?_,rfl⟩;rw[hw2];exact zz4 h (w':=ChangeMaps.setBlock w b (.map es clock)) (by rw[hb];exact ChangeMaps.heap_setBlock_same hb _)
 obtain⟨rfl,f1,n1,sz1,hM1,hf1⟩:=key2;refine⟨st,_,hE,hl,hkp _,hlen _,?_,fun val g hg1 hg2=>?_⟩
 ·have:=hM1.run1 (Keyed.of_law K) ht (hz _) hkey;rw[hf1]at this;exact this
 ·obtain⟨es',clock',hst,hup⟩:=hS (ChangeMaps.setBlock w b (.map es1 clock1)) val (ChangeMaps.heap_setBlock_same hb _);obtain⟨w',hr,hM,_⟩:=hput val g hg1 hg2;rw[hup]at hr;injection hr with _ hr;refine⟨_,hst,zz4 hM ?_,?_,?_⟩
  ·rw[←hr,ChangeMaps.heap_setBlock_same (ChangeMaps.heap_setBlock_same hb _) _,ChangeMaps.heap_setBlock_same hb _]
  ·exact⟨rfl,rfl,rfl,by simp[ChangeMaps.setBlock],fun i hi hn=>by rw[ChangeMaps.heap_setBlock_other (ChangeMaps.heap_setBlock_same hb _) _ (fun e=>hn (by simp[e])),ChangeMaps.heap_setBlock_other hb _ (fun e=>hn (by simp[e]))]⟩
  ·simp[ChangeMaps.setBlock]
theorem zCF:laidOutB prog=true:=by kernel_rfl
theorem zlA:KeyLaw prog 165:=deep_law_laid zCF (m:=3) (by omega) (of_decide_eq_true (by kernel_rfl)) (by kernel_rfl) (by rw[underlying165])
def wfG (g:Gr):Prop:=(0≤g.1∧g.1≤18446744073709551615)∧(0≤g.2∧g.2≤18446744073709551615)
theorem zgs {g:Gr}(h:wfG g)(p:Nat):wfG (zdS g p):=by
 have hb:∀a b:Int,0≤bits .or .u64 a b∧bits .or .u64 a b≤18446744073709551615:=fun a b=>⟨bits_lo_u64 .or a b,bits_hi_u64 .or a b⟩;obtain⟨x,y⟩:=g;unfold zdS;dsimp only;generalize IntKind.u64.wrap (2 ^ (p%64))=q;split
 ·exact⟨hb x q,h.2⟩
 ·exact⟨h.1,hb y q⟩
theorem zA0 {a:Int}(h:0≤a∧a≤18446744073709551615):(Lit.int .u64 a).wf=true:=by
 simp only [Lit.wf,Bool.and_eq_true,decide_eq_true_eq];exact⟨h.1,h.2⟩
theorem wf_i64 {a:Int}(h: -9223372036854775808≤a∧a≤9223372036854775807):(Lit.int .i64 a).wf=true:=by
 simp only [Lit.wf,Bool.and_eq_true,decide_eq_true_eq];exact⟨h.1,h.2⟩
theorem zbP (g:Gr)(s:Int)(hg:wfG g)(hs: -9223372036854775808≤s∧s≤9223372036854775807):∃kl,keyOf prog 165 (.agg #[.int .u64 g.1,.int .u64 g.2,.int .i64 s])=some kl:=by
 have h1:=zA0 hg.1;have h2:=zA0 hg.2;have h3:=wf_i64 hs;have e1:prog.keyType 165=true:=by kernel_rfl
 have e2:prog.cellsOf 165=3:=by kernel_rfl
 have e3:prog.cellsOf 161=2:=by kernel_rfl
 have e4:prog.cellsOf 152=1:=by kernel_rfl
 have e5:prog.cellsOf 2=1:=by kernel_rfl
 obtain⟨d,hd⟩:∃d,prog.types.size+1=d+3:=⟨prog.types.size-2,by have:10≤prog.types.size:=of_decide_eq_true (by kernel_rfl);omega⟩;unfold keyOf;rw[underlying165,hd];simp only [e1,Value.formed,underlying165,e2,Bool.true_and];simp[show List.range 2=[0,1]from rfl,Program.keyLits,underlying165,underlying161,underlying152,underlying2,e2,e3,e4,e5,h1,h2,h3,Value.cells]
theorem zcc {w w':World}{base:Nat}{e:TypeId}{size:Nat}{v:Value}{n:Nat}{xs:List Value}(h:w.ownsRow base e size v n xs)(k:∀g,v.ownBlock=some g→w'.heap[g]?=w.heap[g]?):w'.ownsRow base e size v n xs:=by
 obtain⟨h1,⟨rfl,rfl⟩|⟨g,cap,cur,rfl,hg,hb,h2⟩⟩:=h
 ·exact⟨h1,.inl ⟨rfl,rfl⟩⟩
 ·exact⟨h1,.inr ⟨g,cap,cur,rfl,hg,(k g rfl).trans hb,h2⟩⟩
theorem z6a {w:World}{base:Nat}{a:Option Addr}{c:Nat}{ops:List OpV}(h:w.ownsRow base 74 10 (.slice a ops.length c) ops.length (opsRow ops)):OAt w a ops:=by
 intro hne;obtain⟨h1,⟨h2,h3⟩|⟨g,cap,cur,h2,hg,hb,_,_,_,h4⟩⟩:=h
 ·exact absurd (List.eq_nil_of_length_eq_zero h3) hne
 ·injection h2 with h2;subst h2;refine⟨g,rfl,zBq hb,fun j u hj=>?_⟩;rw[zBk hb,←Array.getElem?_toList];have hl:j<ops.length*10:=by rw[←zFI];exact(zB hj).1
  rw[←h4,List.getElem?_take_of_lt hl]at hj;exact hj
section
variable {σ:Type} (tC:TypeId) (cs:Gr→σ→List Value) (wfS:σ→Prop)
def SeenAt (W:World)(bm N:Nat)(seen:List (Gr×σ)):Prop:=
 ∃n sz f,MapFn W tC bm n sz f∧n≤N∧∀(c:Gr×σ),wfG c.1→wfS c.2→∀kl,keyOf prog tC (.agg (cs c.1 c.2).toArray)=some kl→(c∉seen→f kl=none)∧(c∈seen→∃q:Nat,f kl=some (.int .i64 (q:Int))∧1≤q∧q≤N)
theorem SeenAt.same {W W':World}{bm N:Nat}{seen:List (Gr×σ)}(h:SeenAt tC cs wfS W bm N seen)(e:W'.heap[bm]?=W.heap[bm]?):SeenAt tC cs wfS W' bm N seen:=by
 obtain⟨n,sz,f,h1,h2⟩:=h;exact⟨n,sz,f,zz4 h1 e,h2⟩
theorem SeenAt.made (W:World):SeenAt tC cs wfS (W.alloc (.map #[] 0)) W.heap.size 0 []:=
 ⟨0,0,fun _=>none,MapFn.made W tC,Nat.le_refl _,fun c _ _ kl _=>⟨fun _=>rfl,fun h=>by simp at h⟩⟩
theorem zKN [DecidableEq σ] {tM:TypeId} (K:KeyLaw prog tC) (ht:prog.underlying tM=some (.map tC 3)) (hinj:∀g s g' s',cs g s=cs g' s'→g=g'∧s=s')
 {W:World} {bm N:Nat} {seen:List (Gr×σ)} (h:SeenAt tC cs wfS W bm N seen) (hN:N<2000000) (c0:Gr×σ) (h1:wfG c0.1) (h2:wfS c0.2) {kl:Lit} (hk:keyOf prog tC (.agg (cs c0.1 c0.2).toArray)=some kl):
 ∃(q st:Nat) (w1 w3:World),q≤N∧(q=0↔c0∉seen)∧(Instr.lookup tM (.map (some bm)) (.agg (cs c0.1 c0.2).toArray) false).run prog W=.ok (.int .i64 (q:Int)) W∧
  (Instr.mapEntry tM (.map (some bm)) (.agg (cs c0.1 c0.2).toArray)).run prog W=.ok (.tuple #[.int .i64 (q:Int),goInt st]) w1∧(Instr.lookup tM (.map (some bm)) (.agg (cs c0.1 c0.2).toArray) false).run prog w1=.ok (.int .i64 (q:Int)) w1∧
  (Instr.entryStore tM (.map (some bm)) (goInt st) (.int .i64 ((q:Int)+1))).run prog w1=.ok () w3∧(Instr.lookup tM (.map (some bm)) (.agg (cs c0.1 c0.2).toArray) false).run prog w3=.ok (.int .i64 ((q:Int)+1)) w3∧
  Kept [bm] W w1∧w1.heap.size=W.heap.size∧Kept [bm] W w3∧w3.heap.size=W.heap.size∧SeenAt tC cs wfS w3 bm (N+1) (if c0∈seen then seen else c0::seen):=by
 classical
 obtain⟨n,sz,f,hM,hn,hf⟩:=h;obtain⟨st,w1,hE,hl,hk1,hs1,hl1,hS⟩:=zUR hM K ht zG7 (by unfold maxLen;omega) hk;have hfk:=hf c0 h1 h2 kl hk;obtain⟨q,hq,hqN,hq0⟩:∃q:Nat,(f kl).getD (.int .i64 0)=.int .i64 (q:Int)∧q≤N∧(q=0↔c0∉seen):=by
  by_cases hc:c0∈seen
  ·obtain⟨q,e,a,b⟩:=hfk.2 hc
   exact ⟨q,by rw [e];rfl,b,by constructor <;> intro x;· omega
                               ·exact absurd hc x⟩
  ·exact⟨0,by rw[hfk.1 hc];rfl,Nat.zero_le _,by simp[hc]⟩
 obtain⟨w3,hst,hM3,hk3,hs3⟩:=hS (.int .i64 ((q:Int)+1)) (fun x=>if x=kl then some (.int .i64 ((q:Int)+1))else f x) (by simp) (fun x hx=>by simp[hx]);rw[hq]at hE hl hl1;have hl3:=hM3.run1 (Keyed.of_law K) ht (zG7 w3) hk;simp only [if_true,Option.getD_some]at hl3;refine⟨q,st,w1,w3,hqN,hq0,hl,hE,hl1,hst,hl3,hk1,hs1,hk3,hs3,_,_,_,hM3,by omega,?_⟩;intro c hc1 hc2 kl' hk';by_cases e:kl'=kl
 ·subst e;have e2:=K.inj hk' hk;injection e2 with e2;have e3:c=c0:=by
   obtain⟨a,b⟩:=hinj _ _ _ _ (congrArg Array.toList e2);exact Prod.ext a b
  subst e3;refine⟨fun hn=>?_,fun _=>⟨q+1,by simp,by omega,by omega⟩⟩;by_cases hc:c∈seen
  ·rw[if_pos hc]at hn;exact absurd hc hn
  ·rw[if_neg hc]at hn;exact absurd (List.mem_cons_self ..) hn
 ·have hne:c≠c0:=fun e2=>e (by subst e2;rw[hk']at hk;injection hk);have h5:=hf c hc1 hc2 kl' hk';have hmem:c∈(if c0∈seen then seen else c0::seen)↔c∈seen:=by
   split
   ·rfl
   ·simp[hne]
  refine⟨fun hn=>?_,fun hn=>?_⟩
  ·simp only [if_neg e];exact h5.1 (fun x=>hn (hmem.2 x))
  ·simp only [if_neg e];obtain⟨q',a,b,c'⟩:=h5.2 (hmem.1 hn);exact⟨q',a,b,by omega⟩
end
section
variable {σ:Type} {tC tS:TypeId} {k:Nat} {cs:Gr→σ→List Value} {wfS:σ→Prop} {w W W':World} {B b6 b9 bm b11 ga:Nat} {oa:Option Addr} {ops:List OpV} {b:Int} {m:Mch σ} {wa la:Option Addr} {wc lc:Nat}
def stpC (cs:Gr→σ→List Value)(s:Stp σ):List Value:=cs s.g s.st++[.int .i64 (s.pl:Int)]
structure PM (tC tS:TypeId)(k:Nat)(cs:Gr→σ→List Value)(wfS:σ→Prop)(w:World)(B b6 b9 bm b11 ga:Nat)(oa:Option Addr)(ops:List OpV)(b:Int)(m:Mch σ)(wa la:Option Addr)(wc lc:Nat)(W:World):Prop where
 below:Below B w W
 ord:B≤b6∧b6<b9∧b9<bm∧bm<b11∧b11<W.heap.size∧b6<ga∧ga<b9
 res:∃x y z,W.heap[b6]?=some (.cells #[x,y,z] 104 (0,0))
 row:OAt W oa ops∧∀g,oa=some ⟨g,0,none⟩→ops≠[]→b6<g∧g<b9
 ahd:∃c,W.heap[ga]?=some (.cells c 161 (0,0))∧GRow c (fun k=>ahG (zre ops k) ops 0 (0,0)) ops.length
 must:W.heap[b9]?=some (.cells #[.int .u64 (retG ops 0 (0,0)).1,.int .u64 (retG ops 0 (0,0)).2] 161 (0,0))
 seen:∃N,SeenAt tC cs wfS W bm N m.seen∧N+b.toNat≤1000000
 here:W.heap[b11]?=some (.cells (cs m.here.1 m.here.2).toArray tC (0,0))
 way:W.ownsRow (b11+1) tS (k+1) (.slice wa m.way.length wc) m.way.length (m.way.flatMap (stpC cs))
 lng:W.ownsRow (b11+1) 74 10 (.slice la m.longest.length lc) m.longest.length (opsRow m.longest)
 dis:∀g,(Value.slice wa m.way.length wc).ownBlock=some g→(Value.slice la m.longest.length lc).ownBlock≠some g
 wf:wfG m.here.1∧wfS m.here.2∧m.place≤ops.length∧m.way.length+b.toNat≤1000000∧∀s∈m.way,wfG s.g∧wfS s.st∧s.pl<ops.length
theorem zjB (h:OAt W oa ops)(hs:W.heap.size≤W'.heap.size)(e:∀g,oa=some ⟨g,0,none⟩→ops≠[]→W'.heap[g]?=W.heap[g]?):OAt W' oa ops:=by
 intro hne;obtain⟨g,h1,h2,h3⟩:=h hne;refine⟨g,h1,zH h2 hs,fun j u hj=>?_⟩;rw[←h3 j u hj];exact World.cell?_of_block (w:=W) (a:=⟨g,j,none⟩) (e g h1 hne)
theorem PM.turn (h:PM tC tS k cs wfS w B b6 b9 bm b11 ga oa ops b m wa la wc lc W) {S:List Nat} (kp:Kept S W W') (hS:∀g∈S,g=bm∨g=b11∨(b11<g∧(Value.slice la m.longest.length lc).ownBlock≠some g))
 {b':Int} {m':Mch σ} {wa':Option Addr} {wc':Nat} (hl:m'.longest=m.longest)
 (hseen:∃N,SeenAt tC cs wfS W' bm N m'.seen∧N+b'.toNat≤1000000) (hhere:W'.heap[b11]?=some (.cells (cs m'.here.1 m'.here.2).toArray tC (0,0)))
 (hway:W'.ownsRow (b11+1) tS (k+1) (.slice wa' m'.way.length wc') m'.way.length (m'.way.flatMap (stpC cs))) (hdis:∀g,(Value.slice wa' m'.way.length wc').ownBlock=some g→(Value.slice la m.longest.length lc).ownBlock≠some g)
 (hwf:wfG m'.here.1∧wfS m'.here.2∧m'.place≤ops.length∧m'.way.length+b'.toNat≤1000000∧∀s∈m'.way,wfG s.g∧wfS s.st∧s.pl<ops.length):
 PM tC tS k cs wfS w B b6 b9 bm b11 ga oa ops b' m' wa' la wc' lc W':=by
 obtain⟨o1,o2,o3,o4,o5,o6,o7⟩:=h.ord;have out:∀g,g<b9+1→g∉S:=fun g hg hm=>by rcases hS g hm with e|e|e<;>omega
 have stay:∀g,g<b9+1→W'.heap[g]?=W.heap[g]?:=fun g hg=>kp.block g (by omega) (out g hg);refine⟨h.below.trans (kp.below (by omega) (fun g hg=>by rcases hS g hg with e|e|e<;>omega)),⟨o1,o2,o3,o4,zH o5 kp.size,o6,o7⟩,?_,⟨?_,h.row.2⟩,?_,?_,hseen,hhere,hway,?_,?_,hwf⟩
 ·rw[stay b6 (by omega)];exact h.res
 ·exact zjB h.row.1 kp.size (fun g e1 e2=>stay g (by have:=h.row.2 g e1 e2;omega))
 ·rw[stay ga (by omega)];exact h.ahd
 ·rw[stay b9 (by omega)];exact h.must
 ·rw[hl];refine zcc h.lng (fun g hg=>kp.block g (h.lng.lt g hg).2 (fun hm=>?_));have:=(h.lng.lt g hg).1;rcases hS g hm with e|e|e
  ·omega
  ·omega
  ·exact e.2 hg
 ·rw[hl];exact hdis
theorem PM.on (h:PM tC tS k cs wfS w B b6 b9 bm b11 ga oa ops b m wa la wc lc W)(kp:Below W.heap.size W W'):PM tC tS k cs wfS w B b6 b9 bm b11 ga oa ops b m wa la wc lc W':=by
 obtain⟨o1,o2,o3,o4,o5,o6,o7⟩:=h.ord;obtain⟨N,hs,hN⟩:=h.seen;exact h.turn (S:=[]) (Kept.of_below kp) (by simp) rfl ⟨N,hs.same _ _ _ (kp.block bm (by omega)),hN⟩ (by rw[kp.block b11 o5];exact h.here) (zcc h.way (fun g hg=>kp.block g (h.way.lt g hg).2)) h.dis h.wf
theorem PM.at_ (h:PM tC tS k cs wfS w B b6 b9 bm b11 ga oa ops b m wa la wc lc W)(b':Int)(hb:b'≤b)(p:Nat)(hp:p≤ops.length):PM tC tS k cs wfS w B b6 b9 bm b11 ga oa ops b' { m with place:=p } wa la wc lc W:=by
 obtain⟨N,hs,hN⟩:=h.seen;obtain⟨f1,f2,_,f4,f5⟩:=h.wf;exact⟨h.below,h.ord,h.res,h.row,h.ahd,h.must,⟨N,hs,by omega⟩,h.here,h.way,h.lng,h.dis,f1,f2,hp,by show m.way.length+_≤_;omega,f5⟩
theorem PM.long (h:PM tC tS k cs wfS w B b6 b9 bm b11 ga oa ops b m wa la wc lc W)(kp:Below W.heap.size W W')(l:List OpV)(la':Option Addr)(lc':Nat)(hl:W'.ownsRow W.heap.size 74 10 (.slice la' l.length lc') l.length (opsRow l)):
 PM tC tS k cs wfS w B b6 b9 bm b11 ga oa ops b { m with longest:=l } wa la' wc lc' W':=by
 have h':=h.on kp;obtain⟨o1,o2,o3,o4,o5,o6,o7⟩:=h.ord;refine⟨h'.below,h'.ord,h'.res,h'.row,h'.ahd,h'.must,h'.seen,h'.here,h'.way,?_,?_,h'.wf⟩
 ·obtain⟨a1,⟨a2,a3⟩|⟨g,c,cur,a2,a3,a4⟩⟩:=hl
  ·exact⟨a1,.inl ⟨a2,a3⟩⟩
  ·exact⟨a1,.inr ⟨g,c,cur,a2,by omega,a4⟩⟩
 ·intro g hg e;have h1:=(h.way.lt g hg).2;have h2:=(hl.lt g e).1;omega
end
structure KeptBy (w:World) where
 now:World
 h:Below w.heap.size w now
instance keptInh (w:World):Inhabited (KeptBy w):=⟨⟨w,zD⟩⟩
theorem zC6 {P:Program} {id:Nat} {Q:Exit→Act→World→Prop} {a:Act} {w:World} {l:List Oper} (hm:P.follows .mixedOrders=true) (hB:Region.lexB .any l.toArray=true)
 (h:wpQuiet P l.toArray (fun w'=>∃p:KeptBy w,w'=p.now) (fun a'=>∀w',(∃p:KeptBy w,w'=p.now)→Q .normal a' w') l a):(Code.region id l.toArray true).wp P Q a w:=
 wp_region_quiet (C:=fun w'=>∃p:KeptBy w,w'=p.now) hm hB ⟨⟨w.drew,(zD).drew⟩,rfl⟩ (by simpa using h)
structure WQ (P:Program)(ops:Array Oper)(C:World→Prop)(Q:Act→Prop)(l:List Oper)(a:Act):Prop where
 out:wpQuiet P ops C Q l a
theorem z40z {P:Program} {ops:Array Oper} {C:World→Prop} {Q:Act→Prop} {o:Oper} {rest:List Oper} {a:Act}
 (h:∀K:Act→Prop,(∀a,WQ P ops C Q rest a→K a)→if Region.wanted o (yielded ops a.tmps)then o.quiet P a C K else K (a.put o.dst undef)):WQ P ops C Q (o::rest) a:=
 ⟨wpQuiet_step fun K hK=>h K fun a ha=>hK a ha.out⟩
theorem zy7 {P:Program}{ops:Array Oper}{C:World→Prop}{Q:Act→Prop}{a:Act}(h:Q a):WQ P ops C Q [] a:=⟨wpQuiet_nil h⟩
theorem zhU {P:Program} {id:Nat} {Q:Exit→Act→World→Prop} {a:Act} {w:World} {l:List Oper} (hm:P.follows .mixedOrders=true) (hB:Region.lexB .any l.toArray=true)
 (h:WQ P l.toArray (fun w'=>∃p:KeptBy w,w'=p.now) (fun a'=>∀w',(∃p:KeptBy w,w'=p.now)→Q .normal a' w') l a):(Code.region id l.toArray true).wp P Q a w:=zC6 hm hB h.out
theorem zfm {P:Program} {f:FuncId} {args:Array Value} {w:World} {p:KeptBy w} {v:Value}
 (h:Calls P f args p.now fun e w'=>e=.returned v∧Below p.now.heap.size p.now w'):Calls P f args p.now fun e w''=>e=.returned v∧∃q:KeptBy w,w''=q.now:=
 h.mono fun _ w'' ⟨he,hb⟩=>⟨he,⟨w'',p.h.trans (hb.mono p.h.size)⟩,rfl⟩
theorem zLF {w:World}{x:Addr}{v:Value}(hb:x.block<w.heap.size)(h:w.cell? x=some v)(p:KeptBy w):p.now.cell? x=some v:=(p.h.cell (p:=x) hb).trans h
theorem exU (F:(Nat→Value)→Act)(a:Act)(h:a=F (fun i=>a.tmps[i]?.getD undef)):∃u,a=F u:=⟨_,h⟩
theorem set3 {W:World}{b:Nat}{x y z:Value}{t:TypeId}(h:W.heap[b]?=some (.cells #[x,y,z] t (0,0)))(v0 v1 v2:Value):(((W.setCell ⟨b,0,none⟩ v0).setCell ⟨b,1,none⟩ v1).setCell ⟨b,2,none⟩ v2).heap[b]?=some (.cells #[v0,v1,v2] t (0,0)):=by
 rw[zFg (zFg (zFg h 0 _) 1 _) 2 _];rfl
theorem zH5 {w:World}{base:Nat}{e:TypeId}{size:Nat}{a:Option Addr}{n c:Nat}{xs ys:List Value}(h:w.ownsRow base e size (.slice a (n+1) c) (n+1) (xs++ys))(hx:xs.length=n*size):w.ownsRow base e size (.slice a n c) n xs:=by
 obtain⟨h1,⟨_,h2⟩|⟨g,cap,cur,h2,h3,h4,h5,h6,h7,h8⟩⟩:=h
 ·omega
 ·injection h2 with h2 _ h9;subst h2 h9;refine⟨hx,.inr ⟨g,c,cur,rfl,h3,h4,by omega,h6,h7,?_⟩⟩;have:=congrArg (List.take (n*size)) h8;rw[List.take_take,List.take_append_of_le_length (by omega),←hx,List.take_length]at this;rw[←hx];rw[show min xs.length ((n+1)*size)=xs.length by rw[hx,Nat.add_mul];omega]at this;exact this
theorem out3 {W w:World}{B b6:Nat}(hB:B≤b6)(hbl:Below B w W)(a:Option Addr)(l:List OpV)(hO:OAt W a l)(hne:∀g,a=some ⟨g,0,none⟩→l≠[]→g≠b6)(v0 v1 v2:Value):
 OAt (((W.setCell ⟨b6,0,none⟩ v0).setCell ⟨b6,1,none⟩ v1).setCell ⟨b6,2,none⟩ v2) a l∧Below B w (((W.setCell ⟨b6,0,none⟩ v0).setCell ⟨b6,1,none⟩ v1).setCell ⟨b6,2,none⟩ v2):=by
 refine⟨zjB hO (by simp) (fun g e1 e2=>?_),((hbl.setCell (p:=⟨b6,0,none⟩) hB _).setCell (p:=⟨b6,1,none⟩) hB _).setCell (p:=⟨b6,2,none⟩) hB _⟩;have:=hne g e1 e2;rw[Below.heap_setCell _ _ _ _ this,Below.heap_setCell _ _ _ _ this,Below.heap_setCell _ _ _ _ this]
theorem zN4 {σ:Type}{tC tS:TypeId}{k:Nat}{cs:Gr→σ→List Value}{wfS:σ→Prop}{w W:World}{B b6 b9 bm b11 ga:Nat}{oa:Option Addr}{ops:List OpV}{b:Int}{m:Mch σ}{wa la:Option Addr}{yc lc:Nat}(h:PM tC tS k cs wfS w B b6 b9 bm b11 ga oa ops b m wa la yc lc W):
 ∀g,la=some ⟨g,0,none⟩→B≤g:=by
 intro g e;have h1:=(h.lng.lt g (by rw[e];rfl)).1;have h2:=h.ord;omega
theorem zK9 {σ:Type}{tC tS:TypeId}{k:Nat}{cs:Gr→σ→List Value}{wfS:σ→Prop}{w W:World}{B b6 b9 bm b11 ga:Nat}{oa:Option Addr}{ops:List OpV}{b:Int}{m:Mch σ}{wa la:Option Addr}{yc lc:Nat}(h:PM tC tS k cs wfS w B b6 b9 bm b11 ga oa ops b m wa la yc lc W):
 ∀g,la=some ⟨g,0,none⟩→m.longest≠[]→g≠b6:=by
 intro g e _ e2;have h1:=(h.lng.lt g (by rw[e];rfl)).1;have h2:=h.ord;omega
theorem neqV (a b c d:Int)(W:World):(binOp .neq 72 (.agg #[.int .i64 a,.int .i64 b]) (.agg #[.int .i64 c,.int .i64 d])).run prog W=.ok (.bool (!(decide (a=c∧b=d)))) W:=by
 by_cases h1:a=c<;>by_cases h2:b=d<;>simp[go_sem,underlying72,underlying2,underlying3,h1,h2]
theorem zKZ {w w3:World}{x y:Value}{t:TypeId}(hb:Below (w.alloc (.cells #[x,y] t)).heap.size (w.alloc (.cells #[x,y] t)) w3):w3.heap[w.heap.size]?=some (.cells #[x,y] t (0,0)):=(hb.block _ (by simp)).trans (ziF _ _ _ rfl)
theorem zEL {w w1 w3:World}{o:Obj}(h:Below w.heap.size w w1)(hb:Below (w1.alloc o).heap.size (w1.alloc o) w3):Below w.heap.size w w3:=(h.alloc h.size o).trans (hb.mono (h.alloc h.size o).size)
theorem zwL {P:Program}{c:Code}{J J':Nat→Act→World→Prop}{Q:Exit→Act→World→Prop}{a:Act}{w:World}(h:c.wp P (zLM J Q) a w)(hJ:∀l a w,J l a w→J' l a w):c.wp P (zLM J' Q) a w:=by
 refine wp_mono h ?_;intro e a' w' hq;cases e with
 |goto l=>exact hJ l a' w' hq
 |normal=>exact hq
 |exit id=>exact hq
 |ret=>exact hq
 |panic ch=>exact hq
 |outgrown=>exact hq
theorem z7c {P:Program}{B c:Code}{l:Nat}{Q:Exit→Act→World→Prop}{a:Act}{W:World}(h:∃tail,findLabel B l=some (.seq .skip tail)∧tail.wp P Q a W)(hc:findLabel B l=some (.seq .skip c)):c.wp P Q a W:=by
 obtain⟨tail,hf,hw⟩:=h;have e:=(Code.seq.inj (Option.some.inj (hf.symm.trans hc))).2;rw[←e];exact hw
theorem zUxG {σ:Type}(ops:List OpV)(l:List (Stp σ))(h:∀s∈l,s.pl<ops.length):(takenL ops l).length=l.length:=by
 induction l with
 |nil=>rfl
 |cons x t ih=>
   unfold takenL at ih⊢;rw[List.filterMap_cons,zC (h x (by simp))];simp only [List.length_cons];rw[ih (fun s hs=>h s (by simp[hs]))]
theorem z74 {σ:Type}{cs:Gr→σ→List Value}{K:Nat}(hK:∀x:Stp σ,(stpC cs x).length=K)(l:List (Stp σ)):(l.flatMap (stpC cs)).length=l.length*K:=by
 induction l with
 |nil=>simp
 |cons x t ih=>rw[List.flatMap_cons,zI,ih,hK,List.length_cons,Nat.succ_mul];omega
theorem zSJ {σ:Type}{cs:Gr→σ→List Value}{K:Nat}(hK:∀x:Stp σ,(stpC cs x).length=K)(l:List (Stp σ))(i:Nat)(h:i<l.length):∀c,c<K→(l.flatMap (stpC cs))[i*K+c]?=(stpC cs l[i])[c]?:=by
 induction l generalizing i with
 |nil=>simp at h
 |cons x t ih=>
   intro c hc;have hx:=hK x;rw[List.flatMap_cons];cases i with
   |zero=>rw[List.getElem?_append_left (by omega)];simp
   |succ i=>
     rw[List.getElem?_append_right (by rw[hx,Nat.succ_mul];omega),show(i+1)*K+c-(stpC cs x).length=i*K+c by rw[hx,Nat.succ_mul];omega];exact ih i (by simpa using h) c hc
theorem zeQ {σ:Type}{cs:Gr→σ→List Value}{sc:Stp σ→List Value}{K:Nat}(hK:∀x:Stp σ,(stpC cs x).length=K)(hs:∀x,sc x=stpC cs x){ts:TypeId}{W:World}{base:Nat}{wa:Option Addr}{c:Nat}{l:List (Stp σ)}(h:W.ownsRow base ts K (.slice wa l.length c) l.length (l.flatMap (stpC cs))):WAt K sc W wa l:=by
 intro hne;obtain⟨h1,⟨h2,h3⟩|⟨g,cap,cur,h2,hg,hb,_,_,_,h4⟩⟩:=h
 ·exact absurd (List.eq_nil_of_length_eq_zero h3) hne
 ·injection h2 with h2;subst h2;refine⟨g,rfl,zBq hb,fun j hj i u hi hu=>?_⟩;have e:=zSJ hK l j hj i hi;have hlt:j*K+i<l.length*K:=by have:=Nat.mul_le_mul_right K (show j+1≤l.length from hj);rw[Nat.succ_mul]at this;omega
  rw[←h4,List.getElem?_take_of_lt hlt]at e;rw[zBk hb,←Array.getElem?_toList,e,←hs];exact hu
theorem znO {σ:Type} {tC tS:TypeId} {k n:Nat} {cs:Gr→σ→List Value} {wfS:σ→Prop} {s0:σ} (hs:wfS s0) {w W0 w1 w2 w3 W5:World} {ops:List OpV} {b:Int} {oa:Option Addr} {ac:Array Value} (hb: -9223372036854775808≤b∧b≤1000000)
 (h0:Below w.heap.size w W0∧W0.heap.size=w.heap.size+2∧W0.heap[w.heap.size+1]?=some (.cells #[.int .i64 0,.slice none 0 0,.int .i64 0] 104 (0,0))) (h1:OAt w1 oa ops∧Below W0.heap.size W0 w1∧∀g,oa=some ⟨g,0,none⟩→W0.heap.size≤g)
 (h2:w2.heap[w1.heap.size]?=some (.cells ac 161 (0,0))∧GRow ac (fun k=>ahG (zre ops k) ops 0 (0,0)) n∧Below w1.heap.size w1 w2) (hb3:Below w2.heap.size w2 w3) (hn:ops.length=n)
 (hW5:W5=((w3.alloc (.cells #[.int .u64 (retG ops 0 (0,0)).1,.int .u64 (retG ops 0 (0,0)).2] 161)).alloc (.map #[] 0)).alloc (.cells (cs (0,0) s0).toArray tC)):
 PM tC tS k cs wfS w w.heap.size (w.heap.size+1) w3.heap.size (w3.heap.size+1) (w3.heap.size+1+1) w1.heap.size oa ops b ⟨((0,0),s0),[],[],0,[]⟩ none none 0 0 W5:=by
 subst hn;obtain⟨hb0,hs0,hB6⟩:=h0;obtain⟨hO,hb1,hgo⟩:=h1;obtain⟨hac,hgr,hb2⟩:=h2;have hga:=zBq hac;have hz1:=hb1.size;have hz2:=hb2.size;have hz3:=hb3.size;have hb35:Below w3.heap.size w3 W5:=by rw[hW5];exact((zA _ _).alloc (by simp) _).alloc (by simp;omega) _
 have hz5:W5.heap.size=w3.heap.size+3:=by rw[hW5];simp
 have hm9:W5.heap[w3.heap.size]?=some (.cells #[.int .u64 (retG ops 0 (0,0)).1,.int .u64 (retG ops 0 (0,0)).2] 161 (0,0)):=by
  rw[hW5,zD1 _ _ _ (by simp;omega),zD1 _ _ _ (by simp)];exact ziF _ _ _ rfl
 have hm10:SeenAt tC cs wfS W5 (w3.heap.size+1) 0 []:=by
  have h:=SeenAt.made tC cs wfS (w3.alloc (.cells #[.int .u64 (retG ops 0 (0,0)).1,.int .u64 (retG ops 0 (0,0)).2] 161));rw[show(w3.alloc (.cells #[.int .u64 (retG ops 0 (0,0)).1,.int .u64 (retG ops 0 (0,0)).2] 161)).heap.size=w3.heap.size+1 by simp]at h;exact h.same _ _ _ (by rw[hW5];exact zD1 _ _ _ (by simp))
 have hm11:W5.heap[w3.heap.size+1+1]?=some (.cells (cs (0,0) s0).toArray tC (0,0)):=by
  rw[hW5];exact ziF _ _ _ (by simp)
 have hb25:Below w2.heap.size w2 W5:=hb3.trans (hb35.mono hz3);have hb15:Below w1.heap.size w1 W5:=hb2.trans (hb25.mono hz2);have hb05:Below W0.heap.size W0 W5:=hb1.trans (hb15.mono hz1);refine⟨hb0.trans (hb05.mono (by omega)),⟨by omega,by omega,by omega,by omega,by omega,by omega,by omega⟩,⟨_,_,_,(hb05.block _ (by omega)).trans hB6⟩,⟨hO.below hb15,fun g e hne=>?_⟩,⟨ac,(hb25.block _ (by omega)).trans hac,hgr⟩,hm9,⟨0,hm10,by omega⟩,hm11,World.ownsRow_nil _ _ _ _,World.ownsRow_nil _ _ _ _,(fun g e=>by cases e),(show wfG (0,0)from⟨⟨by decide,by decide⟩,⟨by decide,by decide⟩⟩),hs,Nat.zero_le _,by show 0+_≤_;omega,(fun s hs=>by cases hs)⟩;obtain⟨g2,e2,h2,_⟩:=hO hne;rw[e]at e2;injection e2 with e2;injection e2 with e2;have:=hgo g e;omega
def zUQ (w2 W:World)(eS eV:Nat):Prop:=W.heap[eS]?=some (.cells #[.bool false,.int .i64 0] 59 (0,0))∧W.heap[eV]?=some (.cells #[.int .i64 0,.int .i64 0] 72 (0,0))∧eS≠eV∧w2.heap.size≤eS∧w2.heap.size≤eV∧Below w2.heap.size w2 W
theorem zjU {w2 W:World}{eS eV:Nat}(h:zUQ w2 W eS eV):W.cell? ⟨eS,0,none⟩=some (.bool false)∧W.cell? ⟨eS,1,none⟩=some (.int .i64 0)∧W.cell? ⟨eV,0,none⟩=some (.int .i64 0)∧W.cell? ⟨eV,1,none⟩=some (.int .i64 0)∧W.frozen? ⟨eS,0,none⟩=false∧W.frozen? ⟨eS,1,none⟩=false∧W.frozen? ⟨eV,0,none⟩=false∧W.frozen? ⟨eV,1,none⟩=false∧eS≠eV∧eV≠eS:=
 ⟨zBk h.1 0,zBk h.1 1,zBk h.2.1 0,zBk h.2.1 1,zBn h.1 0,zBn h.1 1,zBn h.2.1 0,zBn h.2.1 1,h.2.2.1,h.2.2.1.symm⟩
theorem zY0 {w2 W:World}{eS eV:Nat}(h:zUQ w2 W eS eV):Below w2.heap.size w2 W:=h.2.2.2.2.2
theorem zcw {w2 W:World}{eS eV:Nat}(h:zUQ w2 W eS eV)(a b:Value):Below w2.heap.size w2 ((W.setCell ⟨eS,0,none⟩ a).setCell ⟨eS,1,none⟩ b):=(h.2.2.2.2.2.setCell (p:=⟨eS,0,none⟩) h.2.2.2.1 _).setCell (p:=⟨eS,1,none⟩) h.2.2.2.1 _
theorem zao {w2 W:World}{eS eV:Nat}(h:zUQ w2 W eS eV)(a b c d:Value):w2.heap.size≤eV∧((((W.setCell ⟨eS,0,none⟩ a).setCell ⟨eS,1,none⟩ b).setCell ⟨eV,0,none⟩ c).setCell ⟨eV,1,none⟩ d).heap[eS]?=some (.cells #[a,b] 59 (0,0))∧((((W.setCell ⟨eS,0,none⟩ a).setCell ⟨eS,1,none⟩ b).setCell ⟨eV,0,none⟩ c).setCell ⟨eV,1,none⟩ d).heap[eV]?=some (.cells #[c,d] 72 (0,0))∧Below w2.heap.size w2 ((((W.setCell ⟨eS,0,none⟩ a).setCell ⟨eS,1,none⟩ b).setCell ⟨eV,0,none⟩ c).setCell ⟨eV,1,none⟩ d):=by
 have k:=four h.2.2.2.2.2 h.2.2.2.1 h.2.2.2.2.1 h.2.2.1 h.1 h.2.1 a b c d _ rfl;exact⟨h.2.2.2.2.1,k.2.1,k.2.2,k.1⟩
theorem zGt {w2 W:World}{eS eV:Nat}(h:zUQ w2 W eS eV)(a b c d:Value):Below w2.heap.size w2 ((((W.setCell ⟨eS,0,none⟩ a).setCell ⟨eS,1,none⟩ b).setCell ⟨eV,0,none⟩ c).setCell ⟨eV,1,none⟩ d):=(zao h a b c d).2.2.2
theorem ze3 {w2 w3:World}(hd:Below w2.heap.size w2 w2.drew)(h:Below ((w2.drew.alloc (.cells #[.bool false,.int .i64 0] 59)).alloc (.cells #[.int .i64 0,.int .i64 0] 72)).heap.size ((w2.drew.alloc (.cells #[.bool false,.int .i64 0] 59)).alloc (.cells #[.int .i64 0,.int .i64 0] 72)) w3):zUQ w2 w3 w2.heap.size (w2.heap.size+1):=by
 refine⟨?_,?_,by omega,Nat.le_refl _,by omega,?_⟩
 ·rw[h.block _ (by simp;omega),zD1 _ _ _ (by simp)];exact ziF _ _ _ rfl
 ·rw[h.block _ (by simp)];exact ziF _ _ _ (by simp)
 ·exact((hd.alloc zG _).alloc (by simp) _).trans (h.mono (by simp;omega))
theorem z6q {w2 w3:World}(hd:Below w2.heap.size w2 w2.drew)(h:Below ((w2.drew.alloc (.cells #[.int .i64 0,.int .i64 0] 72)).alloc (.cells #[.bool false,.int .i64 0] 59)).heap.size ((w2.drew.alloc (.cells #[.int .i64 0,.int .i64 0] 72)).alloc (.cells #[.bool false,.int .i64 0] 59)) w3):zUQ w2 w3 (w2.heap.size+1) w2.heap.size:=by
 refine⟨?_,?_,by omega,by omega,Nat.le_refl _,?_⟩
 ·rw[h.block _ (by simp)];exact ziF _ _ _ (by simp)
 ·rw[h.block _ (by simp;omega),zD1 _ _ _ (by simp)];exact ziF _ _ _ rfl
 ·exact((hd.alloc zG _).alloc (by simp) _).trans (h.mono (by simp;omega))
theorem zGG {w2 w3:World}(hd:Below w2.heap.size w2 w2.drew)(h:Below (w2.drew.alloc (.cells #[.bool false,.int .i64 0] 59)).heap.size (w2.drew.alloc (.cells #[.bool false,.int .i64 0] 59)) w3):Below w2.heap.size w2 w3:=(hd.alloc zG _).trans (h.mono (by simp))
theorem z72 {w2 w3:World}(hd:Below w2.heap.size w2 w2.drew)(h:Below (w2.drew.alloc (.cells #[.int .i64 0,.int .i64 0] 72)).heap.size (w2.drew.alloc (.cells #[.int .i64 0,.int .i64 0] 72)) w3):Below w2.heap.size w2 w3:=(hd.alloc zG _).trans (h.mono (by simp))
theorem z6o {w2 w3:World}(hd:Below w2.heap.size w2 w2.drew)(h:Below (w2.drew.alloc (.cells #[.bool false,.int .i64 0] 59)).heap.size (w2.drew.alloc (.cells #[.bool false,.int .i64 0] 59)) w3):zUQ w2 (w3.alloc (.cells #[.int .i64 0,.int .i64 0] 72)) w2.heap.size w3.heap.size:=by
 have hb:=zGG hd h;have hs:=h.size;simp at hs;refine⟨?_,ziF _ _ _ rfl,by omega,Nat.le_refl _,by omega,hb.alloc hb.size _⟩;rw[zD1 _ _ _ (by omega),h.block _ (by simp)];exact ziF _ _ _ rfl
theorem zAF {w2 w3:World}(hd:Below w2.heap.size w2 w2.drew)(h:Below (w2.drew.alloc (.cells #[.int .i64 0,.int .i64 0] 72)).heap.size (w2.drew.alloc (.cells #[.int .i64 0,.int .i64 0] 72)) w3):zUQ w2 (w3.alloc (.cells #[.bool false,.int .i64 0] 59)) w3.heap.size w2.heap.size:=by
 have hb:=z72 hd h;have hs:=h.size;simp at hs;refine⟨ziF _ _ _ rfl,?_,by omega,by omega,Nat.le_refl _,hb.alloc hb.size _⟩;rw[zD1 _ _ _ (by omega),h.block _ (by simp)];exact ziF _ _ _ rfl
theorem zDk {w2 w3:World}(h:Below w2.heap.size w2 w3):zUQ w2 ((w3.alloc (.cells #[.bool false,.int .i64 0] 59)).alloc (.cells #[.int .i64 0,.int .i64 0] 72)) w3.heap.size (w3.alloc (.cells #[.bool false,.int .i64 0] 59)).heap.size:=by
 have hs:=h.size;refine⟨?_,ziF _ _ _ rfl,by simp,hs,by simp;omega,(h.alloc h.size _).alloc (by simp;omega) _⟩;rw[zD1 _ _ _ (by simp)];exact ziF _ _ _ rfl
theorem zfa {w2 w3:World}(h:Below w2.heap.size w2 w3):zUQ w2 ((w3.alloc (.cells #[.int .i64 0,.int .i64 0] 72)).alloc (.cells #[.bool false,.int .i64 0] 59)) (w3.alloc (.cells #[.int .i64 0,.int .i64 0] 72)).heap.size w3.heap.size:=by
 have hs:=h.size;refine⟨ziF _ _ _ rfl,?_,by simp,by simp;omega,hs,(h.alloc h.size _).alloc (by simp;omega) _⟩;rw[zD1 _ _ _ (by simp)];exact ziF _ _ _ rfl
theorem zE0 {w w3:World}{x y z u:Value}{t:TypeId}(hb:Below (w.alloc (.cells #[x,y,z,u] t)).heap.size (w.alloc (.cells #[x,y,z,u] t)) w3):w3.heap[w.heap.size]?=some (.cells #[x,y,z,u] t (0,0)):=(hb.block _ (by simp)).trans (ziF _ _ _ rfl)
theorem zpB {w w3:World}(h:Below w.heap.size w w3)(a b c d:Value):Below w.heap.size w ((((w3.setCell ⟨w.heap.size,0,none⟩ a).setCell ⟨w.heap.size,1,none⟩ b).setCell ⟨w.heap.size,2,none⟩ c).setCell ⟨w.heap.size,3,none⟩ d):=
 (((h.setCell (p:=⟨w.heap.size,0,none⟩) zG _).setCell (p:=⟨w.heap.size,1,none⟩) zG _).setCell (p:=⟨w.heap.size,2,none⟩) zG _).setCell (p:=⟨w.heap.size,3,none⟩) zG _
theorem zVQ {W:World}{b:Nat}{x y z u:Value}{t:TypeId}(h:W.heap[b]?=some (.cells #[x,y,z,u] t (0,0)))(v0 v1 v2 v3:Value):((((W.setCell ⟨b,0,none⟩ v0).setCell ⟨b,1,none⟩ v1).setCell ⟨b,2,none⟩ v2).setCell ⟨b,3,none⟩ v3).heap[b]?=some (.cells #[v0,v1,v2,v3] t (0,0)):=by
 rw[zFg (zFg (zFg (zFg h 0 _) 1 _) 2 _) 3 _];rfl
end Go.Proofs.YtbbkihekjdffpaaGreatDoor.srch
