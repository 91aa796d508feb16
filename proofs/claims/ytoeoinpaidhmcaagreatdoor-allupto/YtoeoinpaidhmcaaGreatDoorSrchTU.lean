/- Several texts in one. -/
import Derived.Test.YtoeoinpaidhmcaaGreatDoorSrchSZ3
import Derived.DeepKeys4
import Derived.Laws.Closers25b
import Derived.ScopeJumps
import Derived.WideKeyEntry
set_option maxHeartbeats 1000000
set_option maxRecDepth 100000
namespace Go.Proofs.YtoeoinpaidhmcaaGreatDoor.srch
open Tryz
open Go.RowKit Go.Shelf
open Go.Sort (swp size_swp grow grow_grow grow_empty alloc_eq_grow size_grow HoldsK flatK size_flatK get_flatK putRowK size_putRowK)
instance opvInh:Inhabited OpV:=⟨⟨0,0,[],[],0,0,0,0,0,0⟩⟩
section
variable {α:Type} [Inhabited α]
theorem zfn (enc:α→List Value) (k:Nat) (n:∀x,(enc x).length=k) {w:World} {g:Nat} {c:Array Value} {t:TypeId} (d:Array α) (h:w.heap[g]?=some (.cells c t (0,0)))
 (o:∀i (_:i<d.size) (j:Nat),j<k→c[i*k+j]?=(enc d[i]!)[j]?):HoldsK enc k w g 0 d:=by
 intro j a;rw[size_flatK]at a;have m:0<k:=by
  rcases Nat.eq_zero_or_pos k with h0|h0
  ·rw[h0]at a;omega
  ·exact h0
 have p:j/k<d.size:=Nat.div_lt_of_lt_mul (by rw[Nat.mul_comm];exact a);have l:j%k<k:=Nat.mod_lt _ m;refine⟨?_,by rw[Nat.zero_add];exact zBn h j⟩;rw[Nat.zero_add,zBk h j,get_flatK enc k d j a];have e:j/k*k+j%k=j:=by rw[Nat.mul_comm];exact Nat.div_add_mod j k
 have:=o (j/k) p (j%k) l;rw[e]at this;have b:j%k<(enc d[j/k]!).length:=by rw[n];exact l
 rw[this,zC b,getElem!_pos (enc d[j/k]!) (j%k) b];rfl
theorem zNp {enc:α→List Value}{k:Nat}{a W:World}{blk b:Nat}{d:Array α}(h:SWK enc k a blk b d W){B:Nat}(g:B≤blk)(i:B≤a.heap.size):Below B a W:=by
 obtain⟨n,e,rfl⟩:=h;refine⟨rfl,rfl,rfl,by unfold sortWorldK;rw[size_grow,size_putRowK];exact Nat.le_add_right _ _,fun j hj=>?_⟩;show((a.heap.modify blk _)++e)[j]?=_;rw[Array.getElem?_append_left (by simp;omega),Array.getElem?_modify,if_neg (by omega)]
end
def ordC (a b:OpV):Int:=cmpI (zSA a) (zSA b)
def ordO (ops:List OpV):List OpV:=(zjN (ltOf ordC) ops.toArray).toList
theorem zYV (a:List OpV):(ordO a).length=a.length:=by
 unfold ordO;have:=(zUI (lt:=ltOf ordC) (p:=fun _=>True) (d:=a.toArray) (fun _=>trivial)).2;simpa using this
theorem zRPi {p:OpV→Prop}(a:List OpV)(g:p default)(h:∀o∈a,p o):∀o∈ordO a,p o:=by
 have d:AllP p a.toArray:=by
  intro i;by_cases b:i<a.length
  ·rw[getElem!_pos _ _ (by simpa using b)];exact h _ (by simp)
  ·rw[getElem!_neg _ _ (by simpa using b)];exact g
 have j:=(zUI (lt:=ltOf ordC) d).1;intro o e;obtain⟨i,b,rfl⟩:=List.getElem_of_mem e;have:=j i;unfold ordO at b;rw[getElem!_pos _ _ (by simpa using b)]at this;simpa [ordO]using this
theorem z1Z (o:OpV):(opvCells o).length=10:=rfl
theorem zuh (o:OpV):∀v∈opvCells o,v.oneCell'=true:=by
 intro u h;simp[opvCells]at h;rcases h with rfl|rfl|rfl|rfl|rfl|rfl|rfl|rfl|rfl|rfl<;>rfl
theorem z8eW (blk b a:Nat)(w:World):CmpLays prog 160 #[] opvCells 10 ordC blk b a w:=by
 intro m g d _ x y;refine(zOb x y _).mono ?_;rintro e w' ⟨rfl,h⟩;exact⟨rfl,h⟩
theorem zhB (g:Nat)(k:Array Value)(j:OpV→OpV→Int)(blk l:Nat)(h:Array OpV)(i:World)(t:∀args w,(callFunc g args).run prog w=.ok (.enter g args) w)(o:CmpLays prog g k opvCells 10 j blk 0 h.size i)(R:RowK opvCells 10 i blk 0 h)(A:h.size≤1000000)(a b:Nat)(d:Array OpV)(w:World)(s:h.size=d.size)(S:SWK opvCells 10 i blk 0 d w)(q:a≤b)(z:b≤d.size):
 Calls prog 197 #[.slice (some ⟨blk,0,none⟩) h.size l,.int .i64 a,.int .i64 b,.func (.func g) #[] k] w fun e w'=>e=.returned (.tuple #[])∧SWK opvCells 10 i blk 0 (Sort.insertionSort (ltOf j) d a b) w':=by
 have u:CmpLays prog g k opvCells 10 j blk 0 d.size w:=fun m p dk hdk x y=>by
  obtain⟨v,r,rfl⟩:=S;rw[sortWorldK_on opvCells 10 i blk 0 v m d dk r p R.hblk hdk];exact o _ _ dk (by omega) x y
 rw[s];refine(AnyQ.insertionSortCmpFunc Tryz.insOp 10 Tryz.isAgg27 Tryz.sizeOf27 opvCells R.hk R.h1 j g k blk 0 l a b d w t u (S.holds R.hblk R.hH s.symm) (S.lt R.hblk) q z (by omega)).mono ?_;rintro e w' ⟨rfl,n,p,rfl⟩;exact⟨rfl,SWK.on S R.hblk n _ p (zpf _ _ _ _)⟩
theorem zRZ (d:Option Addr)(a:Nat)(b:Value)(w:World):
 Calls prog 197 #[.slice d 0 a,.int .i64 0,.int .i64 0,b] w fun e w'=>e=.returned (.tuple #[])∧w'=w:=by
 go_enter func197,ntmps197;go_wp2;refine wp_loop_rounds 1 ?_;rw[rounds_succ];go_wp2;go_end0;exact⟨rfl,rfl⟩
theorem zxs (b:Option Addr)(a:Nat)(d:Value)(w:World):
 Calls prog 178 #[.slice b 0 a,.int .i64 0,d] w fun e w'=>e=.returned (.tuple #[])∧w'=w:=by
 have g:=fun W=>zRZ b a d W;go_enter func178,ntmps178;go_wp2;refine wp_loop_rounds 1 ?_;rw[rounds_succ];go_wp2_with (go_at_call 197;refine(g _).mono ?_;rintro e h ⟨rfl,rfl⟩);refine wp_loop_rounds 1 ?_;rw[rounds_succ];go_wp2;go_end0;exact⟨rfl,rfl⟩
theorem z8a (b:Option Addr) (n a:Nat) (g:Nat) (d:Array Value) (w:World) (R:World→Prop)
 (h:Calls prog 178 #[.slice b n a,.int .i64 n,.func (.func g) #[] d] w fun e w'=>e=.returned (.tuple #[])∧R w'):
 Calls prog 159 #[.slice b n a,.func (.func g) #[] d] w fun e w'=>e=.returned (.tuple #[])∧R w':=by
 go_enter func159,ntmps159;go_wp2_with (go_at_call 178;refine h.mono ?_;rintro e i ⟨rfl,hR⟩);go_end0;exact⟨rfl,hR⟩
theorem zUu (a:Option Addr)(c:Nat)(b:List OpV)(B:Nat)(w:World)(hB:B≤w.heap.size)(V:b.length≤128)(s:w.ownsRow B 27 10 (.slice a b.length c) b.length (opsRow b)):
 Calls prog 178 #[.slice a b.length c,.int .i64 b.length,.func (.func 160) #[] #[]] w fun e w'=>e=.returned (.tuple #[])∧(OAt w' a (ordO b)∧Below B w w'):=by
 by_cases h0:b=[]
 ·subst h0;refine(zxs a c _ w).mono ?_;rintro e w' ⟨rfl,rfl⟩;exact⟨rfl,fun h=>absurd (List.eq_nil_of_length_eq_zero (zYV [])) h,zD⟩
 ·obtain⟨_,⟨k,L⟩|⟨g,U,S,k,K,H,P,_,Q,D⟩⟩:=s
  ·exact absurd (List.eq_nil_of_length_eq_zero L) h0
  ·injection k with k _ h3;subst k h3;have O:=opsRow_len b;have F:HoldsK opvCells 10 w g 0 b.toArray:=by
    refine zfn opvCells 10 z1Z b.toArray H ?_;intro i z j l;have y:i<b.length:=(by simpa using z);rw[getElem!_pos b.toArray i z];have v:=zvc b i y j l;rw[←D,List.getElem?_take_of_lt (by omega)]at v;rw[←Array.getElem?_toList,v];simp
   have R:RowK opvCells 10 w g 0 b.toArray:=⟨z1Z,zuh,F,zBq H⟩;have q:b.toArray.size=b.length:=(by simp);have t:∀args w,(callFunc 160 args).run prog w=.ok (.enter 160 args) w:=enters_of func160 (by kernel_rfl) rfl;have x:=z8eW g 0 b.toArray.size w;have h:=zzz styO opvCells ordC 160 #[] g 0 c b.toArray b.toArray w w t x (zhB _ _ _ g c b.toArray w t x R (by omega)) R rfl (SWK.start F) (by omega);rw[q]at h;refine h.mono ?_;rintro e w' ⟨rfl,r⟩;refine⟨rfl,?_,zNp r K hB⟩;intro _;have E:(zjN (ltOf ordC) b.toArray).size=b.toArray.size:=(zUI (lt:=ltOf ordC) (p:=fun _=>True) (d:=b.toArray) (fun _=>trivial)).2;have G:=r.holds R.hblk R.hH E;refine⟨g,rfl,r.lt R.hblk,?_⟩;intro j u l;have n:j<(ordO b).length*10:=(by rw[←opsRow_len];exact(zB l).1);have A:j/10<(ordO b).length:=(by omega);have J:j/10<(zjN (ltOf ordC) b.toArray).size:=(by simpa [ordO]using A);have I:=(G j (by rw[size_flatK];simpa [ordO]using n)).1;rw[Nat.zero_add]at I;rw[I,get_flatK opvCells 10 _ j (by simpa [ordO]using n)];have C:=zvc (ordO b) (j/10) A (j%10) (Nat.mod_lt _ (by omega));rw[show j/10*10+j%10=j by omega,l]at C;rw[getElem!_pos (zjN (ltOf ordC) b.toArray) (j/10) J];have N:(ordO b)[j/10]=(zjN (ltOf ordC) b.toArray)[j/10]:=(by simp[ordO]);have M:some u=(opvCells (zjN (ltOf ordC) b.toArray)[j/10])[j%10]?:=C.trans (congrArg (fun o=>(opvCells o)[j%10]?) N);have m:j%10<(opvCells (zjN (ltOf ordC) b.toArray)[j/10]).length:=(by rw[z1Z];omega);rw[getElem!_pos (opvCells (zjN (ltOf ordC) b.toArray)[j/10]) (j%10) m,M,zC m];rfl
theorem zWm (k:Option Addr)(j:Nat)(b:List OpV)(w:World)(m:OAt w k b)(p:b.length≤128):
 Calls prog 121 #[.slice k b.length j] w fun e w'=>∃a c,e=.returned (.slice a b.length c)∧OAt w' a (ordO b)∧Below w.heap.size w w'∧∀g,a=some ⟨g,0,none⟩→w.heap.size≤g:=by
 have x:=zR8 k j b w m p;have q:=fun(a:Option Addr) (c:Nat) (W:World) (hB:w.heap.size≤W.heap.size) (d:W.ownsRow w.heap.size 27 10 (.slice a b.length c) b.length (opsRow b))=>z8a a b.length c 160 #[] W _ (zUu a c b w.heap.size W hB p d);have t:=Hid.mk' q;clear q m;go_enter func121,ntmps121;go_wp2_with (first
  |(go_at_call 158;refine x.mono ?_;rintro e v ⟨a,c,rfl,d,h⟩;have o:=t.out a c v h.size d;have l:=Hid.mk' h;have s:=Hid.mk' (show ∀g,a=some ⟨g,0,none⟩→w.heap.size≤g from fun g e=>zYv d g (by rw[e];rfl));clear d h)
  | (go_at_call 159;refine o.mono ?_;rintro e y ⟨rfl,n,i⟩;have u:=Hid.mk' n;have r:=Hid.mk' i;clear n i))
 go_ret;exact⟨a,c,rfl,u.out,l.out.trans r.out,s.out⟩
open Go.RowKit
def zLM (J:Nat→Act→World→Prop)(Q:Exit→Act→World→Prop):Exit→Act→World→Prop
 |.goto l,a,w=>J l a w
 |e,a,w=>Q e a w
theorem zcM {J:Nat→Act→World→Prop}{Q:Exit→Act→World→Prop}{a:Act}{w:World}:zLM J Q .ret a w=Q .ret a w:=rfl
theorem zXw {J:Nat→Act→World→Prop}{Q:Exit→Act→World→Prop}{a:Act}{w:World}(l:Nat):zLM J Q (.goto l) a w=J l a w:=rfl
theorem z1v {P:Program} {a:Act} {w:World} {Q:Exit→Act→World→Prop} {c:Code} (J:Nat→Nat→Act→World→Prop)
 (first:c.wp P (zLM (fun l a' w'=>∃n,J l n a' w') Q) a w)
 (s:∀l n a w,J l n a w→∃rest,findLabel c l=some rest∧rest.wp P (zLM (fun l' a' w'=>∃u,u<n∧J l' u a' w') Q) a w):(Code.scope c).wp P Q a w:=by
 intro b k cs;have key:∀n l a w,J l n a w→∃e a' w',Q e a' w'∧∀rest,findLabel c l=some rest→Arrives P (lone (b.at a (.code rest::.inScope c::k)) cs w) b k cs e a' w':=by
  intro n
  induction n using Nat.strongRecOn with
  |_ n ih=>
    intro l a w C;obtain⟨rest,E,D⟩:=s l n a w C;obtain⟨e,i,j,m,d⟩:=D b (.inScope c::k) cs;have t:∀g,findLabel c l=some g→g=rest:=fun r' h=>(by rw[E]at h;injection h with h;exact h.symm);cases e with
    |normal=>exact⟨.normal,i,j,m,fun r' h=>by rw[t r' h];exact Steps.trans d (.one step_inScope)⟩
    |exit id=>exact⟨.exit id,i,j,m,fun r' h=>by rw[t r' h];exact fun k' hk=>d k' (by simp[exitTo,hk])⟩
    |goto l'=>
      obtain⟨u,B,q⟩:=m;obtain⟨y,z,A,v,o⟩:=ih u B l' i j q;obtain⟨g,p,_⟩:=s l' u i j q;have x:gotoIn l' (.inScope c::k)=some (.code g::.inScope c::k):=(by simp[gotoIn,p]);exact⟨y,z,A,v,fun r' h=>by rw[t r' h];exact .of_steps (d _ x) (o g p)⟩
    |ret=>exact⟨_,i,j,m,fun r' h=>by rw[t r' h];exact d⟩
    |panic ch=>exact⟨_,i,j,m,fun r' h=>by rw[t r' h];exact d⟩
    |outgrown=>exact⟨_,i,j,m,fun r' h=>by rw[t r' h];exact d⟩
 obtain⟨e,i,j,m,d⟩:=first b (.inScope c::k) cs
 cases e with
 |normal=>exact⟨.normal,i,j,m,.head step_scope (Steps.trans d (.one step_inScope))⟩
 |exit id=>exact⟨.exit id,i,j,m,fun k' hk=>.head step_scope (d k' (by simp[exitTo,hk]))⟩
 |goto l'=>
   obtain⟨n,q⟩:=m;obtain⟨y,z,A,v,o⟩:=key n l' i j q;obtain⟨g,p,_⟩:=s l' n i j q;have x:gotoIn l' (.inScope c::k)=some (.code g::.inScope c::k):=(by simp[gotoIn,p]);exact⟨y,z,A,v,.of_steps (.head step_scope (d _ x)) (o g p)⟩
 |ret=>exact⟨_,i,j,m,.of_steps (.one step_scope) d⟩
 |panic ch=>exact⟨_,i,j,m,.of_steps (.one step_scope) d⟩
 |outgrown=>exact⟨_,i,j,m,.of_steps (.one step_scope) d⟩
section
variable {σ:Type} [DecidableEq σ] (doit:σ→OpV→σ×Int×Int) (ops:List OpV)
theorem zXF (o:OpV)(m:Mch σ):(look doit ops o m).2.way.length≤m.way.length+1:=by
 unfold look;split
 ·exact Nat.le_succ _
 ·dsimp only;split
  ·exact Nat.le_succ _
  ·split
   ·exact Nat.le_succ _
   ·simp
theorem zYk (f:Nat):∀(b:Int) (a:Bool) (m:Mch σ),4*b.toNat+2*m.way.length+(if a then 1 else 0)<f→∃r,srun doit ops f b a m=some r:=by
 induction f with
 |zero=>intro b a m h;exact absurd h (Nat.not_lt_zero _)
 |succ f ih=>
   intro b a m h;cases a with
   |true=>
     unfold srun;split
     ·exact⟨_,rfl⟩
     ·exact ih _ _ _ (by simp at h⊢;omega)
   |false=>
     unfold srun;cases ho:ops[m.place]? with
     |some o=>
       dsimp only;split
       ·exact⟨_,rfl⟩
       ·have g:=zXF doit ops o m;refine ih _ _ _ ?_;have i:(if(look doit ops o m).1=true then 1 else 0)≤1:=(by split<;>omega);simp at h;omega
     |none=>
       dsimp only;cases hl:m.way.getLast? with
       |none=>exact⟨_,rfl⟩
       |some s=>
         dsimp only;refine ih _ _ _ ?_;have d:m.way≠[]:=(by intro e;rw[e]at hl;simp at hl);have:=List.length_pos_iff.2 d;simp at h⊢;omega
theorem Found.ends (s0:σ)(b:Int):∃r,Found doit ops s0 b r:=by
 obtain⟨r,h⟩:=zYk doit ops (4*b.toNat+2) b true ⟨((0,0),s0),[],[],0,[]⟩ (by simp);exact⟨r,_,h⟩
end
open Go.RowKit Go.Maps
open Go.WideMaps (KeyLaw)
theorem zz4 {w w':World}{k:TypeId}{b n sz:Nat}{f:Lit→Option Value}(h:MapFn w k b n sz f)(e:w'.heap[b]?=w.heap[b]?):MapFn w' k b n sz f:=by
 obtain⟨D,⟨i,a,d,g⟩,r⟩:=h;exact⟨D,⟨i,a,e.trans d,g⟩,r⟩
theorem zUR {w:World} {k e t:TypeId} {b n sz:Nat} {f:Lit→Option Value} (h:MapFn w k b n sz f) (K:KeyLaw prog k) (q:prog.underlying t=some (.map k e)) {z:Value} (H:∀u:World,(zeroValue e).run prog u=.ok z u) (J:n<maxLen)
 {key:Value} {m:Lit} (a:keyOf prog k key=some m):
 ∃(st:Nat) (w1:World),(Instr.mapEntry t (.map (some b)) key).run prog w=.ok (.tuple #[(f m).getD z,goInt st]) w1∧(Instr.lookup t (.map (some b)) key false).run prog w=.ok ((f m).getD z) w∧Kept [b] w w1∧w1.heap.size=w.heap.size∧
  (Instr.lookup t (.map (some b)) key false).run prog w1=.ok ((f m).getD z) w1∧
  ∀(val:Value) (g:Lit→Option Value),g m=some val→(∀x,x≠m→g x=f x)→∃w3,(Instr.entryStore t (.map (some b)) (goInt st) val).run prog w1=.ok () w3∧MapFn w3 k b (n+1) (if(f m).isSome then sz else sz+1) g∧Kept [b] w w3∧w3.heap.size=w.heap.size:=by
 classical
 have P:=h.run1 (Keyed.of_law K) q (H w) a;have E:=fun(val:Value) g v C=>h.runPut (Keyed.of_law K) q J val a ((Keyed.of_law K).key a) g v C;have h0:=h;obtain⟨D,⟨A,d,l,F,_⟩,_⟩:=h0;obtain⟨O,st,M,s,S,hv,hS⟩:=WideElems.entry_then_store K q H l F a;have I:∀o:Obj,(ChangeMaps.setBlock w b o).heap.size=w.heap.size:=fun o=>by simp[ChangeMaps.setBlock]
 have ab:∀o:Obj,Kept [b] w (ChangeMaps.setBlock w b o):=fun o=>⟨rfl,rfl,rfl,Nat.le_of_eq (I o).symm,fun i _ hi=>ChangeMaps.heap_setBlock_other l _ (fun e=>hi (by simp[e]))⟩;have R:O=(f m).getD z∧∃f1 Z N,MapFn (ChangeMaps.setBlock w b (.map M s)) k b Z N f1∧(f1 m).getD z=(f m).getD z:=by
  rcases K.find w a A.toList F.keys with ⟨v,C⟩|⟨j,B,v,C,U⟩
  ·have y:(Instr.lookup t (.map (some b)) key false).run prog w=.ok z w:=by
    simp[Instr.lookup,run_underlying q,MapKept.run_getObj_map l,K.check w _ a,v,H,Result.andThen]
   rw[P]at y;injection y with hz2;have r:(Instr.mapEntry t (.map (some b)) key).run prog w=.ok (.tuple #[z,goInt d]) (ChangeMaps.setBlock w b (.map (A.push ⟨key,z,d⟩) (d+1))):=by
    simp[Instr.mapEntry,run_underlying q,MapKept.run_getObj_map l,K.check w false a,v,H,MapKept.run_setObj_map _ l,Result.andThen,ChangeMaps.setBlock]
   have hU:(Instr.mapUpdate t (.map (some b)) key z).run prog w=.ok () (ChangeMaps.setBlock w b (.map (A.push ⟨key,z,d⟩) (d+1))):=by
    simp[Instr.mapUpdate,run_underlying q,MapKept.run_getObj_map l,K.check w false a,v,MapKept.run_setObj_map _ l,Result.andThen,ChangeMaps.setBlock]
   obtain⟨w',p,Q,_⟩:=E z (fun x=>if x=m then some z else f x) (by simp) (fun x hx=>by simp[hx]);rw[hU]at p;injection p with _ p;rw[S]at r;injection r with hv2 hw2;injection hv2 with hv2;have G:O=z:=(List.cons.inj (congrArg Array.toList hv2)).1;refine⟨by rw[G,hz2],_,_,_,by rw[hw2,p];exact Q,by simp[hz2]⟩
  ·have y:(Instr.lookup t (.map (some b)) key false).run prog w=.ok B.val w:=by
    simp[Instr.lookup,run_underlying q,MapKept.run_getObj_map l,K.check w _ a,v,Result.andThen]
   rw[P]at y;injection y with hz2;have hj:A[j]?=some B:=(by simpa using C);have L:A.modify j (fun e=>{ e with key:=key })=A:=by
    apply Array.ext';rw[Array.toList_modify,ChangeMaps.modify_eq_set _ _ _ _ C];have:({ B with key:=key }:MapEntry)=B:=(by rw[←U]);rw[this];exact WideElems.set_self _ _ _ C
   have r:(Instr.mapEntry t (.map (some b)) key).run prog w=.ok (.tuple #[B.val,goInt B.born]) (ChangeMaps.setBlock w b (.map A d)):=by
    simp[Instr.mapEntry,run_underlying q,MapKept.run_getObj_map l,K.check w false a,v,hj,U,K.stays w a,L,MapKept.run_setObj_map _ l,Result.andThen,ChangeMaps.setBlock]
   rw[S]at r;injection r with hv2 hw2;injection hv2 with hv2;have G:O=B.val:=(List.cons.inj (congrArg Array.toList hv2)).1;refine⟨by rw[G,hz2],f,n,sz,?_,rfl⟩;rw[hw2];exact zz4 h (w':=ChangeMaps.setBlock w b (.map A d)) (by rw[l];exact ChangeMaps.heap_setBlock_same l _)
 obtain⟨rfl,f1,Z,N,aa,X⟩:=R;refine⟨st,_,S,P,ab _,I _,?_,fun val g hg1 hg2=>?_⟩
 ·have:=aa.run1 (Keyed.of_law K) q (H _) a;rw[X]at this;exact this
 ·obtain⟨ad,V,W,Y⟩:=hS (ChangeMaps.setBlock w b (.map M s)) val (ChangeMaps.heap_setBlock_same l _);obtain⟨w',p,Q,_⟩:=E val g hg1 hg2;rw[Y]at p;injection p with _ p;refine⟨_,W,zz4 Q ?_,?_,?_⟩
  ·rw[←p,ChangeMaps.heap_setBlock_same (ChangeMaps.heap_setBlock_same l _) _,ChangeMaps.heap_setBlock_same l _]
  ·exact⟨rfl,rfl,rfl,by simp[ChangeMaps.setBlock],fun i hi J=>by rw[ChangeMaps.heap_setBlock_other (ChangeMaps.heap_setBlock_same l _) _ (fun e=>J (by simp[e])),ChangeMaps.heap_setBlock_other l _ (fun e=>J (by simp[e]))]⟩
  ·simp[ChangeMaps.setBlock]
theorem laidOut:laidOutB Tryz.prog=true:=by kernel_rfl
def wfG (g:Gr):Prop:=(0≤g.1∧g.1≤18446744073709551615)∧(0≤g.2∧g.2≤18446744073709551615)
theorem zgs {g:Gr}(h:wfG g)(p:Nat):wfG (zdS g p):=by
 have d:∀a b:Int,0≤bits .or .u64 a b∧bits .or .u64 a b≤18446744073709551615:=fun a b=>⟨bits_lo_u64 .or a b,bits_hi_u64 .or a b⟩;obtain⟨x,y⟩:=g;unfold zdS;dsimp only;generalize IntKind.u64.wrap (2 ^ (p%64))=q;split
 ·exact⟨d x q,h.2⟩
 ·exact⟨h.1,d y q⟩
theorem zA0 {a:Int}(h:0≤a∧a≤18446744073709551615):(Lit.int .u64 a).wf=true:=by
 simp only [Lit.wf,Bool.and_eq_true,decide_eq_true_eq];exact⟨h.1,h.2⟩
theorem wf_i64 {a:Int}(h: -9223372036854775808≤a∧a≤9223372036854775807):(Lit.int .i64 a).wf=true:=by
 simp only [Lit.wf,Bool.and_eq_true,decide_eq_true_eq];exact⟨h.1,h.2⟩
theorem owns_same {w w':World}{a:Nat}{e:TypeId}{b:Nat}{v:Value}{n:Nat}{j:List Value}(h:w.ownsRow a e b v n j)(k:∀g,v.ownBlock=some g→w'.heap[g]?=w.heap[g]?):w'.ownsRow a e b v n j:=by
 obtain⟨d,⟨rfl,rfl⟩|⟨g,i,l,rfl,o,m,p⟩⟩:=h
 ·exact⟨d,.inl ⟨rfl,rfl⟩⟩
 ·exact⟨d,.inr ⟨g,i,l,rfl,o,(k g rfl).trans m,p⟩⟩
theorem z6a {w:World}{e:Nat}{a:Option Addr}{c:Nat}{b:List OpV}(h:w.ownsRow e 27 10 (.slice a b.length c) b.length (opsRow b)):OAt w a b:=by
 intro k;obtain⟨q,⟨d,m⟩|⟨g,p,o,d,r,i,_,_,_,n⟩⟩:=h
 ·exact absurd (List.eq_nil_of_length_eq_zero m) k
 ·injection d with d;subst d;refine⟨g,rfl,zBq i,fun j u hj=>?_⟩;rw[zBk i,←Array.getElem?_toList];have l:j<b.length*10:=by rw[←opsRow_len];exact(zB hj).1
  rw[←n,List.getElem?_take_of_lt l]at hj;exact hj
section
variable {σ:Type} (tC:TypeId) (cs:Gr→σ→List Value) (wfS:σ→Prop)
def SeenAt (W:World)(bm N:Nat)(seen:List (Gr×σ)):Prop:=
 ∃n sz f,MapFn W tC bm n sz f∧n≤N∧∀(c:Gr×σ),wfG c.1→wfS c.2→∀kl,keyOf prog tC (.agg (cs c.1 c.2).toArray)=some kl→(c∉seen→f kl=none)∧(c∈seen→∃q:Nat,f kl=some (.int .i64 (q:Int))∧1≤q∧q≤N)
theorem SeenAt.same {W W':World}{b N:Nat}{a:List (Gr×σ)}(h:SeenAt tC cs wfS W b N a)(e:W'.heap[b]?=W.heap[b]?):SeenAt tC cs wfS W' b N a:=by
 obtain⟨n,sz,f,d,g⟩:=h;exact⟨n,sz,f,zz4 d e,g⟩
theorem SeenAt.made (W:World):SeenAt tC cs wfS (W.alloc (.map #[] 0)) W.heap.size 0 []:=
 ⟨0,0,fun _=>none,MapFn.made W tC,Nat.le_refl _,fun c _ _ kl _=>⟨fun _=>rfl,fun h=>by simp at h⟩⟩
theorem zKN [DecidableEq σ] {tM:TypeId} (K:KeyLaw prog tC) (J:prog.underlying tM=some (.map tC 3)) (A:∀g s g' s',cs g s=cs g' s'→g=g'∧s=s')
 {W:World} {k N:Nat} {d:List (Gr×σ)} (h:SeenAt tC cs wfS W k N d) (hN:N<2000000) (c0:Gr×σ) (Y:wfG c0.1) (S:wfS c0.2) {p:Lit} (m:keyOf prog tC (.agg (cs c0.1 c0.2).toArray)=some p):
 ∃(q st:Nat) (l i:World),q≤N∧(q=0↔c0∉d)∧(Instr.lookup tM (.map (some k)) (.agg (cs c0.1 c0.2).toArray) false).run prog W=.ok (.int .i64 (q:Int)) W∧
  (Instr.mapEntry tM (.map (some k)) (.agg (cs c0.1 c0.2).toArray)).run prog W=.ok (.tuple #[.int .i64 (q:Int),goInt st]) l∧(Instr.lookup tM (.map (some k)) (.agg (cs c0.1 c0.2).toArray) false).run prog l=.ok (.int .i64 (q:Int)) l∧
  (Instr.entryStore tM (.map (some k)) (goInt st) (.int .i64 ((q:Int)+1))).run prog l=.ok () i∧(Instr.lookup tM (.map (some k)) (.agg (cs c0.1 c0.2).toArray) false).run prog i=.ok (.int .i64 ((q:Int)+1)) i∧
  Kept [k] W l∧l.heap.size=W.heap.size∧Kept [k] W i∧i.heap.size=W.heap.size∧SeenAt tC cs wfS i k (N+1) (if c0∈d then d else c0::d):=by
 classical
 obtain⟨n,sz,f,Z,j,R⟩:=h;obtain⟨st,l,P,G,B,F,y,V⟩:=zUR Z K J zG7 (by unfold maxLen;omega) m;have u:=R c0 Y S p m;obtain⟨q,U,O,D⟩:∃q:Nat,(f p).getD (.int .i64 0)=.int .i64 (q:Int)∧q≤N∧(q=0↔c0∉d):=by
  by_cases hc:c0∈d
  ·obtain⟨q,e,a,b⟩:=u.2 hc
   exact ⟨q,by rw [e];rfl,b,by constructor <;> intro x;· omega
                               ·exact absurd hc x⟩
  ·exact⟨0,by rw[u.1 hc];rfl,Nat.zero_le _,by simp[hc]⟩
 obtain⟨i,L,z,H,Q⟩:=V (.int .i64 ((q:Int)+1)) (fun x=>if x=p then some (.int .i64 ((q:Int)+1))else f x) (by simp) (fun x hx=>by simp[hx]);rw[U]at P G y;have w:=z.run1 (Keyed.of_law K) J (zG7 i) m;simp only [if_true,Option.getD_some]at w;refine⟨q,st,l,i,O,D,G,P,y,L,w,B,F,H,Q,_,_,_,z,by omega,?_⟩;intro c I M v r;by_cases e:v=p
 ·subst e;have t:=K.inj r m;injection t with t;have e3:c=c0:=by
   obtain⟨a,b⟩:=A _ _ _ _ (congrArg Array.toList t);exact Prod.ext a b
  subst e3;refine⟨fun j=>?_,fun _=>⟨q+1,by simp,by omega,by omega⟩⟩;by_cases hc:c∈d
  ·rw[if_pos hc]at j;exact absurd hc j
  ·rw[if_neg hc]at j;exact absurd (List.mem_cons_self ..) j
 ·have E:c≠c0:=fun t=>e (by subst t;rw[r]at m;injection m);have C:=R c I M v r;have o:c∈(if c0∈d then d else c0::d)↔c∈d:=by
   split
   ·rfl
   ·simp[E]
  refine⟨fun j=>?_,fun j=>?_⟩
  ·simp only [if_neg e];exact C.1 (fun x=>j (o.2 x))
  ·simp only [if_neg e];obtain⟨X,a,b,c'⟩:=C.2 (o.1 j);exact⟨X,a,b,by omega⟩
end
section
variable {σ:Type} {tC tS:TypeId} {k:Nat} {cs:Gr→σ→List Value} {wfS:σ→Prop} {w W W':World} {B b6 b9 bm b11 ga:Nat} {oa:Option Addr} {ops:List OpV} {b:Int} {m:Mch σ} {wa la:Option Addr} {wc lc:Nat}
def stpC (cs:Gr→σ→List Value)(s:Stp σ):List Value:=cs s.g s.st++[.int .i64 (s.pl:Int)]
structure PM (tC tS:TypeId)(k:Nat)(cs:Gr→σ→List Value)(wfS:σ→Prop)(w:World)(B b6 b9 bm b11 ga:Nat)(oa:Option Addr)(ops:List OpV)(b:Int)(m:Mch σ)(wa la:Option Addr)(wc lc:Nat)(W:World):Prop where
 below:Below B w W
 ord:B≤b6∧b6<b9∧b9<bm∧bm<b11∧b11<W.heap.size∧b6<ga∧ga<b9
 res:∃x y z,W.heap[b6]?=some (.cells #[x,y,z] 203 (0,0))
 row:OAt W oa ops∧∀g,oa=some ⟨g,0,none⟩→ops≠[]→b6<g∧g<b9
 ahd:∃c,W.heap[ga]?=some (.cells c 244 (0,0))∧GRow c (fun k=>ahG (zre ops k) ops 0 (0,0)) ops.length
 must:W.heap[b9]?=some (.cells #[.int .u64 (retG ops 0 (0,0)).1,.int .u64 (retG ops 0 (0,0)).2] 244 (0,0))
 seen:∃N,SeenAt tC cs wfS W bm N m.seen∧N+b.toNat≤1000000
 here:W.heap[b11]?=some (.cells (cs m.here.1 m.here.2).toArray tC (0,0))
 way:W.ownsRow (b11+1) tS (k+1) (.slice wa m.way.length wc) m.way.length (m.way.flatMap (stpC cs))
 lng:W.ownsRow (b11+1) 27 10 (.slice la m.longest.length lc) m.longest.length (opsRow m.longest)
 dis:∀g,(Value.slice wa m.way.length wc).ownBlock=some g→(Value.slice la m.longest.length lc).ownBlock≠some g
 wf:wfG m.here.1∧wfS m.here.2∧m.place≤ops.length∧m.way.length+b.toNat≤1000000∧∀s∈m.way,wfG s.g∧wfS s.st∧s.pl<ops.length
theorem zjB (h:OAt W oa ops)(l:W.heap.size≤W'.heap.size)(e:∀g,oa=some ⟨g,0,none⟩→ops≠[]→W'.heap[g]?=W.heap[g]?):OAt W' oa ops:=by
 intro b;obtain⟨g,d,k,i⟩:=h b;refine⟨g,d,zI k l,fun j u hj=>?_⟩;rw[←i j u hj];exact World.cell?_of_block (w:=W) (a:=⟨g,j,none⟩) (e g d b)
theorem PM.turn (h:PM tC tS k cs wfS w B b6 b9 bm b11 ga oa ops b m wa la wc lc W) {S:List Nat} (i:Kept S W W') (t:∀g∈S,g=bm∨g=b11∨(b11<g∧(Value.slice la m.longest.length lc).ownBlock≠some g))
 {p:Int} {a:Mch σ} {l:Option Addr} {j:Nat} (v:a.longest=m.longest)
 (n:∃N,SeenAt tC cs wfS W' bm N a.seen∧N+p.toNat≤1000000) (o:W'.heap[b11]?=some (.cells (cs a.here.1 a.here.2).toArray tC (0,0)))
 (q:W'.ownsRow (b11+1) tS (k+1) (.slice l a.way.length j) a.way.length (a.way.flatMap (stpC cs))) (r:∀g,(Value.slice l a.way.length j).ownBlock=some g→(Value.slice la m.longest.length lc).ownBlock≠some g)
 (u:wfG a.here.1∧wfS a.here.2∧a.place≤ops.length∧a.way.length+p.toNat≤1000000∧∀s∈a.way,wfG s.g∧wfS s.st∧s.pl<ops.length):
 PM tC tS k cs wfS w B b6 b9 bm b11 ga oa ops p a l la j lc W':=by
 obtain⟨E,C,y,A,z,F,D⟩:=h.ord;have x:∀g,g<b9+1→g∉S:=fun g hg hm=>by rcases t g hm with e|e|e<;>omega
 have d:∀g,g<b9+1→W'.heap[g]?=W.heap[g]?:=fun g hg=>i.block g (by omega) (x g hg);refine⟨h.below.trans (i.below (by omega) (fun g hg=>by rcases t g hg with e|e|e<;>omega)),⟨E,C,y,A,zI z i.size,F,D⟩,?_,⟨?_,h.row.2⟩,?_,?_,n,o,q,?_,?_,u⟩
 ·rw[d b6 (by omega)];exact h.res
 ·exact zjB h.row.1 i.size (fun g e1 e2=>d g (by have:=h.row.2 g e1 e2;omega))
 ·rw[d ga (by omega)];exact h.ahd
 ·rw[d b9 (by omega)];exact h.must
 ·rw[v];refine owns_same h.lng (fun g hg=>i.block g (h.lng.lt g hg).2 (fun hm=>?_));have:=(h.lng.lt g hg).1;rcases t g hm with e|e|e
  ·omega
  ·omega
  ·exact e.2 hg
 ·rw[v];exact r
theorem PM.on (h:PM tC tS k cs wfS w B b6 b9 bm b11 ga oa ops b m wa la wc lc W)(a:Below W.heap.size W W'):PM tC tS k cs wfS w B b6 b9 bm b11 ga oa ops b m wa la wc lc W':=by
 obtain⟨o,p,l,n,d,q,j⟩:=h.ord;obtain⟨N,e,i⟩:=h.seen;exact h.turn (S:=[]) (Kept.of_below a) (by simp) rfl ⟨N,e.same _ _ _ (a.block bm (by omega)),i⟩ (by rw[a.block b11 d];exact h.here) (owns_same h.way (fun g hg=>a.block g (h.way.lt g hg).2)) h.dis h.wf
theorem PM.at_ (h:PM tC tS k cs wfS w B b6 b9 bm b11 ga oa ops b m wa la wc lc W)(a:Int)(l:a≤b)(p:Nat)(g:p≤ops.length):PM tC tS k cs wfS w B b6 b9 bm b11 ga oa ops a { m with place:=p } wa la wc lc W:=by
 obtain⟨N,i,n⟩:=h.seen;obtain⟨f1,e,_,j,d⟩:=h.wf;exact⟨h.below,h.ord,h.res,h.row,h.ahd,h.must,⟨N,i,by omega⟩,h.here,h.way,h.lng,h.dis,f1,e,g,by show m.way.length+_≤_;omega,d⟩
theorem PM.long (h:PM tC tS k cs wfS w B b6 b9 bm b11 ga oa ops b m wa la wc lc W)(s:Below W.heap.size W W')(l:List OpV)(d:Option Addr)(i:Nat)(n:W'.ownsRow W.heap.size 27 10 (.slice d l.length i) l.length (opsRow l)):
 PM tC tS k cs wfS w B b6 b9 bm b11 ga oa ops b { m with longest:=l } wa d wc i W':=by
 have a:=h.on s;obtain⟨D,A,u,z,y,E,C⟩:=h.ord;refine⟨a.below,a.ord,a.res,a.row,a.ahd,a.must,a.seen,a.here,a.way,?_,?_,a.wf⟩
 ·obtain⟨o,⟨j,p⟩|⟨g,c,q,j,p,t⟩⟩:=n
  ·exact⟨o,.inl ⟨j,p⟩⟩
  ·exact⟨o,.inr ⟨g,c,q,j,by omega,t⟩⟩
 ·intro g r e;have x:=(h.way.lt g r).2;have v:=(n.lt g e).1;omega
end
structure KeptBy (w:World) where
 now:World
 h:Below w.heap.size w now
instance keptInh (w:World):Inhabited (KeptBy w):=⟨⟨w,zD⟩⟩
theorem zC6 {P:Program} {id:Nat} {Q:Exit→Act→World→Prop} {a:Act} {w:World} {l:List Oper} (b:P.follows .mixedOrders=true) (hB:Region.lexB .any l.toArray=true)
 (h:wpQuiet P l.toArray (fun w'=>∃p:KeptBy w,w'=p.now) (fun a'=>∀w',(∃p:KeptBy w,w'=p.now)→Q .normal a' w') l a):(Code.region id l.toArray true).wp P Q a w:=
 wp_region_quiet (C:=fun w'=>∃p:KeptBy w,w'=p.now) b hB ⟨⟨w.drew,(zD).drew⟩,rfl⟩ (by simpa using h)
structure WQ (P:Program)(ops:Array Oper)(C:World→Prop)(Q:Act→Prop)(l:List Oper)(a:Act):Prop where
 out:wpQuiet P ops C Q l a
theorem z40z {P:Program} {b:Array Oper} {C:World→Prop} {Q:Act→Prop} {o:Oper} {rest:List Oper} {a:Act}
 (h:∀K:Act→Prop,(∀a,WQ P b C Q rest a→K a)→if Region.wanted o (yielded b a.tmps)then o.quiet P a C K else K (a.put o.dst undef)):WQ P b C Q (o::rest) a:=
 ⟨wpQuiet_step fun K hK=>h K fun a ha=>hK a ha.out⟩
theorem zy7 {P:Program}{b:Array Oper}{C:World→Prop}{Q:Act→Prop}{a:Act}(h:Q a):WQ P b C Q [] a:=⟨wpQuiet_nil h⟩
theorem zhU {P:Program} {id:Nat} {Q:Exit→Act→World→Prop} {a:Act} {w:World} {l:List Oper} (b:P.follows .mixedOrders=true) (hB:Region.lexB .any l.toArray=true)
 (h:WQ P l.toArray (fun w'=>∃p:KeptBy w,w'=p.now) (fun a'=>∀w',(∃p:KeptBy w,w'=p.now)→Q .normal a' w') l a):(Code.region id l.toArray true).wp P Q a w:=zC6 b hB h.out
theorem zfm {P:Program} {f:FuncId} {args:Array Value} {w:World} {p:KeptBy w} {v:Value}
 (h:Calls P f args p.now fun e w'=>e=.returned v∧Below p.now.heap.size p.now w'):Calls P f args p.now fun e w''=>e=.returned v∧∃q:KeptBy w,w''=q.now:=
 h.mono fun _ w'' ⟨he,hb⟩=>⟨he,⟨w'',p.h.trans (hb.mono p.h.size)⟩,rfl⟩
theorem zLF {w:World}{x:Addr}{v:Value}(a:x.block<w.heap.size)(h:w.cell? x=some v)(p:KeptBy w):p.now.cell? x=some v:=(p.h.cell (p:=x) a).trans h
theorem exU (F:(Nat→Value)→Act)(a:Act)(h:a=F (fun i=>a.tmps[i]?.getD undef)):∃u,a=F u:=⟨_,h⟩
theorem set3 {W:World}{b:Nat}{x y z:Value}{t:TypeId}(h:W.heap[b]?=some (.cells #[x,y,z] t (0,0)))(d e a:Value):(((W.setCell ⟨b,0,none⟩ d).setCell ⟨b,1,none⟩ e).setCell ⟨b,2,none⟩ a).heap[b]?=some (.cells #[d,e,a] t (0,0)):=by
 rw[zFg (zFg (zFg h 0 _) 1 _) 2 _];rfl
theorem zH5 {w:World}{i:Nat}{e:TypeId}{b:Nat}{a:Option Addr}{n c:Nat}{d m:List Value}(h:w.ownsRow i e b (.slice a (n+1) c) (n+1) (d++m))(k:d.length=n*b):w.ownsRow i e b (.slice a n c) n d:=by
 obtain⟨v,⟨_,j⟩|⟨g,t,l,j,p,o,u,s,q,r⟩⟩:=h
 ·omega
 ·injection j with j _ h9;subst j h9;refine⟨k,.inr ⟨g,c,l,rfl,p,o,by omega,s,q,?_⟩⟩;have:=congrArg (List.take (n*b)) r;rw[List.take_take,List.take_append_of_le_length (by omega),←k,List.take_length]at this;rw[←k];rw[show min d.length ((n+1)*b)=d.length by rw[k,Nat.add_mul];omega]at this;exact this
theorem out3 {W w:World}{B b:Nat}(hB:B≤b)(e:Below B w W)(a:Option Addr)(l:List OpV)(k:OAt W a l)(j:∀g,a=some ⟨g,0,none⟩→l≠[]→g≠b)(h i d:Value):
 OAt (((W.setCell ⟨b,0,none⟩ h).setCell ⟨b,1,none⟩ i).setCell ⟨b,2,none⟩ d) a l∧Below B w (((W.setCell ⟨b,0,none⟩ h).setCell ⟨b,1,none⟩ i).setCell ⟨b,2,none⟩ d):=by
 refine⟨zjB k (by simp) (fun g e1 e2=>?_),((e.setCell (p:=⟨b,0,none⟩) hB _).setCell (p:=⟨b,1,none⟩) hB _).setCell (p:=⟨b,2,none⟩) hB _⟩;have:=j g e1 e2;rw[Below.heap_setCell _ _ _ _ this,Below.heap_setCell _ _ _ _ this,Below.heap_setCell _ _ _ _ this]
theorem zN4 {σ:Type}{tC tS:TypeId}{k:Nat}{cs:Gr→σ→List Value}{wfS:σ→Prop}{w W:World}{B l j p a q:Nat}{n:Option Addr}{d:List OpV}{b:Int}{m:Mch σ}{s i:Option Addr}{r o:Nat}(h:PM tC tS k cs wfS w B l j p a q n d b m s i r o W):
 ∀g,i=some ⟨g,0,none⟩→B≤g:=by
 intro g e;have u:=(h.lng.lt g (by rw[e];rfl)).1;have t:=h.ord;omega
theorem zK9 {σ:Type}{tC tS:TypeId}{k:Nat}{cs:Gr→σ→List Value}{wfS:σ→Prop}{w W:World}{B a l p d q:Nat}{n:Option Addr}{i:List OpV}{b:Int}{m:Mch σ}{s j:Option Addr}{r o:Nat}(h:PM tC tS k cs wfS w B a l p d q n i b m s j r o W):
 ∀g,j=some ⟨g,0,none⟩→m.longest≠[]→g≠a:=by
 intro g e _ v;have u:=(h.lng.lt g (by rw[e];rfl)).1;have t:=h.ord;omega
theorem neqV (a b c d:Int)(W:World):(binOp .neq 25 (.agg #[.int .i64 a,.int .i64 b]) (.agg #[.int .i64 c,.int .i64 d])).run prog W=.ok (.bool (!(decide (a=c∧b=d)))) W:=by
 by_cases h1:a=c<;>by_cases h2:b=d<;>simp[go_sem,underlying25,underlying2,underlying3,h1,h2]
theorem zKZ {w a:World}{x y:Value}{t:TypeId}(b:Below (w.alloc (.cells #[x,y] t)).heap.size (w.alloc (.cells #[x,y] t)) a):a.heap[w.heap.size]?=some (.cells #[x,y] t (0,0)):=(b.block _ (by simp)).trans (ziF _ _ _ rfl)
theorem zEL {w a b:World}{o:Obj}(h:Below w.heap.size w a)(d:Below (a.alloc o).heap.size (a.alloc o) b):Below w.heap.size w b:=(h.alloc h.size o).trans (d.mono (h.alloc h.size o).size)
theorem zwL {P:Program}{c:Code}{J d:Nat→Act→World→Prop}{Q:Exit→Act→World→Prop}{a:Act}{w:World}(h:c.wp P (zLM J Q) a w)(g:∀l a w,J l a w→d l a w):c.wp P (zLM d Q) a w:=by
 refine wp_mono h ?_;intro e a' w' b;cases e with
 |goto l=>exact g l a' w' b
 |normal=>exact b
 |exit id=>exact b
 |ret=>exact b
 |panic ch=>exact b
 |outgrown=>exact b
theorem z7c {P:Program}{B c:Code}{l:Nat}{Q:Exit→Act→World→Prop}{a:Act}{W:World}(h:∃b,findLabel B l=some (.seq .skip b)∧b.wp P Q a W)(g:findLabel B l=some (.seq .skip c)):c.wp P Q a W:=by
 obtain⟨b,i,d⟩:=h;have e:=(Code.seq.inj (Option.some.inj (i.symm.trans g))).2;rw[←e];exact d
theorem zUxG {σ:Type}(a:List OpV)(l:List (Stp σ))(h:∀s∈l,s.pl<a.length):(takenL a l).length=l.length:=by
 induction l with
 |nil=>rfl
 |cons x t ih=>
   unfold takenL at ih⊢;rw[List.filterMap_cons,zC (h x (by simp))];simp only [List.length_cons];rw[ih (fun s hs=>h s (by simp[hs]))]
theorem z74 {σ:Type}{cs:Gr→σ→List Value}{K:Nat}(hK:∀x:Stp σ,(stpC cs x).length=K)(l:List (Stp σ)):(l.flatMap (stpC cs)).length=l.length*K:=by
 induction l with
 |nil=>simp
 |cons x t ih=>rw[List.flatMap_cons,zJ,ih,hK,List.length_cons,Nat.succ_mul];omega
theorem zSJ {σ:Type}{cs:Gr→σ→List Value}{K:Nat}(hK:∀x:Stp σ,(stpC cs x).length=K)(l:List (Stp σ))(i:Nat)(h:i<l.length):∀c,c<K→(l.flatMap (stpC cs))[i*K+c]?=(stpC cs l[i])[c]?:=by
 induction l generalizing i with
 |nil=>simp at h
 |cons x t ih=>
   intro c b;have a:=hK x;rw[List.flatMap_cons];cases i with
   |zero=>rw[List.getElem?_append_left (by omega)];simp
   |succ i=>
     rw[List.getElem?_append_right (by rw[a,Nat.succ_mul];omega),show(i+1)*K+c-(stpC cs x).length=i*K+c by rw[a,Nat.succ_mul];omega];exact ih i (by simpa using h) c b
theorem zeQ {σ:Type}{cs:Gr→σ→List Value}{k:Stp σ→List Value}{K:Nat}(hK:∀x:Stp σ,(stpC cs x).length=K)(s:∀x,k x=stpC cs x){q:TypeId}{W:World}{b:Nat}{o:Option Addr}{c:Nat}{l:List (Stp σ)}(h:W.ownsRow b q K (.slice o l.length c) l.length (l.flatMap (stpC cs))):WAt K k W o l:=by
 intro d;obtain⟨y,⟨a,r⟩|⟨g,v,t,a,w,m,_,_,_,p⟩⟩:=h
 ·exact absurd (List.eq_nil_of_length_eq_zero r) d
 ·injection a with a;subst a;refine⟨g,rfl,zBq m,fun j hj i u hi hu=>?_⟩;have e:=zSJ hK l j hj i hi;have n:j*K+i<l.length*K:=by have:=Nat.mul_le_mul_right K (show j+1≤l.length from hj);rw[Nat.succ_mul]at this;omega
  rw[←p,List.getElem?_take_of_lt n]at e;rw[zBk m,←Array.getElem?_toList,e,←s];exact hu
theorem znO {σ:Type} {tC tS:TypeId} {k n:Nat} {cs:Gr→σ→List Value} {wfS:σ→Prop} {s0:σ} (D:wfS s0) {w j l o d i:World} {a:List OpV} {b:Int} {C:Option Addr} {E:Array Value} (X: -9223372036854775808≤b∧b≤1000000)
 (R:Below w.heap.size w j∧j.heap.size=w.heap.size+2∧j.heap[w.heap.size+1]?=some (.cells #[.int .i64 0,.slice none 0 0,.int .i64 0] 203 (0,0))) (P:OAt l C a∧Below j.heap.size j l∧∀g,C=some ⟨g,0,none⟩→j.heap.size≤g)
 (H:o.heap[l.heap.size]?=some (.cells E 244 (0,0))∧GRow E (fun k=>ahG (zre a k) a 0 (0,0)) n∧Below l.heap.size l o) (x:Below o.heap.size o d) (Q:a.length=n)
 (m:i=((d.alloc (.cells #[.int .u64 (retG a 0 (0,0)).1,.int .u64 (retG a 0 (0,0)).2] 244)).alloc (.map #[] 0)).alloc (.cells (cs (0,0) s0).toArray tC)):
 PM tC tS k cs wfS w w.heap.size (w.heap.size+1) d.heap.size (d.heap.size+1) (d.heap.size+1+1) l.heap.size C a b ⟨((0,0),s0),[],[],0,[]⟩ none none 0 0 i:=by
 subst Q;obtain⟨F,S,G⟩:=R;obtain⟨I,y,M⟩:=P;obtain⟨u,N,v⟩:=H;have V:=zBq u;have L:=y.size;have J:=v.size;have O:=x.size;have z:Below d.heap.size d i:=by rw[m];exact((zA _ _).alloc (by simp) _).alloc (by simp;omega) _
 have U:i.heap.size=d.heap.size+3:=by rw[m];simp
 have K:i.heap[d.heap.size]?=some (.cells #[.int .u64 (retG a 0 (0,0)).1,.int .u64 (retG a 0 (0,0)).2] 244 (0,0)):=by
  rw[m,zD1 _ _ _ (by simp;omega),zD1 _ _ _ (by simp)];exact ziF _ _ _ rfl
 have B:SeenAt tC cs wfS i (d.heap.size+1) 0 []:=by
  have h:=SeenAt.made tC cs wfS (d.alloc (.cells #[.int .u64 (retG a 0 (0,0)).1,.int .u64 (retG a 0 (0,0)).2] 244));rw[show(d.alloc (.cells #[.int .u64 (retG a 0 (0,0)).1,.int .u64 (retG a 0 (0,0)).2] 244)).heap.size=d.heap.size+1 by simp]at h;exact h.same _ _ _ (by rw[m];exact zD1 _ _ _ (by simp))
 have A:i.heap[d.heap.size+1+1]?=some (.cells (cs (0,0) s0).toArray tC (0,0)):=by
  rw[m];exact ziF _ _ _ (by simp)
 have q:Below o.heap.size o i:=x.trans (z.mono O);have t:Below l.heap.size l i:=v.trans (q.mono J);have p:Below j.heap.size j i:=y.trans (t.mono L);refine⟨F.trans (p.mono (by omega)),⟨by omega,by omega,by omega,by omega,by omega,by omega,by omega⟩,⟨_,_,_,(p.block _ (by omega)).trans G⟩,⟨I.below t,fun g e hne=>?_⟩,⟨E,(q.block _ (by omega)).trans u,N⟩,K,⟨0,B,by omega⟩,A,World.ownsRow_nil _ _ _ _,World.ownsRow_nil _ _ _ _,(fun g e=>by cases e),(show wfG (0,0)from⟨⟨by decide,by decide⟩,⟨by decide,by decide⟩⟩),D,Nat.zero_le _,by show 0+_≤_;omega,(fun s D=>by cases D)⟩;obtain⟨W,r,H,_⟩:=I hne;rw[e]at r;injection r with r;injection r with r;have:=M g e;omega
def zUQ (w2 W:World)(eS eV:Nat):Prop:=W.heap[eS]?=some (.cells #[.bool false,.int .i64 0] 132 (0,0))∧W.heap[eV]?=some (.cells #[.int .i64 0,.int .i64 0] 25 (0,0))∧eS≠eV∧w2.heap.size≤eS∧w2.heap.size≤eV∧Below w2.heap.size w2 W
theorem zjU {d W:World}{b a:Nat}(h:zUQ d W b a):W.cell? ⟨b,0,none⟩=some (.bool false)∧W.cell? ⟨b,1,none⟩=some (.int .i64 0)∧W.cell? ⟨a,0,none⟩=some (.int .i64 0)∧W.cell? ⟨a,1,none⟩=some (.int .i64 0)∧W.frozen? ⟨b,0,none⟩=false∧W.frozen? ⟨b,1,none⟩=false∧W.frozen? ⟨a,0,none⟩=false∧W.frozen? ⟨a,1,none⟩=false∧b≠a∧a≠b:=
 ⟨zBk h.1 0,zBk h.1 1,zBk h.2.1 0,zBk h.2.1 1,zBn h.1 0,zBn h.1 1,zBn h.2.1 0,zBn h.2.1 1,h.2.2.1,h.2.2.1.symm⟩
theorem zY0 {a W:World}{d b:Nat}(h:zUQ a W d b):Below a.heap.size a W:=h.2.2.2.2.2
theorem zdw {e W:World}{d g:Nat}(h:zUQ e W d g)(a b:Value):Below e.heap.size e ((W.setCell ⟨d,0,none⟩ a).setCell ⟨d,1,none⟩ b):=(h.2.2.2.2.2.setCell (p:=⟨d,0,none⟩) h.2.2.2.1 _).setCell (p:=⟨d,1,none⟩) h.2.2.2.1 _
theorem zao {i W:World}{g e:Nat}(h:zUQ i W g e)(a b c d:Value):i.heap.size≤e∧((((W.setCell ⟨g,0,none⟩ a).setCell ⟨g,1,none⟩ b).setCell ⟨e,0,none⟩ c).setCell ⟨e,1,none⟩ d).heap[g]?=some (.cells #[a,b] 132 (0,0))∧((((W.setCell ⟨g,0,none⟩ a).setCell ⟨g,1,none⟩ b).setCell ⟨e,0,none⟩ c).setCell ⟨e,1,none⟩ d).heap[e]?=some (.cells #[c,d] 25 (0,0))∧Below i.heap.size i ((((W.setCell ⟨g,0,none⟩ a).setCell ⟨g,1,none⟩ b).setCell ⟨e,0,none⟩ c).setCell ⟨e,1,none⟩ d):=by
 have k:=four h.2.2.2.2.2 h.2.2.2.1 h.2.2.2.2.1 h.2.2.1 h.1 h.2.1 a b c d _ rfl;exact⟨h.2.2.2.2.1,k.2.1,k.2.2,k.1⟩
theorem zGt {g W:World}{i e:Nat}(h:zUQ g W i e)(a b c d:Value):Below g.heap.size g ((((W.setCell ⟨i,0,none⟩ a).setCell ⟨i,1,none⟩ b).setCell ⟨e,0,none⟩ c).setCell ⟨e,1,none⟩ d):=(zao h a b c d).2.2.2
theorem ze3 {a b:World}(d:Below a.heap.size a a.drew)(h:Below ((a.drew.alloc (.cells #[.bool false,.int .i64 0] 132)).alloc (.cells #[.int .i64 0,.int .i64 0] 25)).heap.size ((a.drew.alloc (.cells #[.bool false,.int .i64 0] 132)).alloc (.cells #[.int .i64 0,.int .i64 0] 25)) b):zUQ a b a.heap.size (a.heap.size+1):=by
 refine⟨?_,?_,by omega,Nat.le_refl _,by omega,?_⟩
 ·rw[h.block _ (by simp;omega),zD1 _ _ _ (by simp)];exact ziF _ _ _ rfl
 ·rw[h.block _ (by simp)];exact ziF _ _ _ (by simp)
 ·exact((d.alloc zH _).alloc (by simp) _).trans (h.mono (by simp;omega))
theorem z6q {a b:World}(d:Below a.heap.size a a.drew)(h:Below ((a.drew.alloc (.cells #[.int .i64 0,.int .i64 0] 25)).alloc (.cells #[.bool false,.int .i64 0] 132)).heap.size ((a.drew.alloc (.cells #[.int .i64 0,.int .i64 0] 25)).alloc (.cells #[.bool false,.int .i64 0] 132)) b):zUQ a b (a.heap.size+1) a.heap.size:=by
 refine⟨?_,?_,by omega,by omega,Nat.le_refl _,?_⟩
 ·rw[h.block _ (by simp)];exact ziF _ _ _ (by simp)
 ·rw[h.block _ (by simp;omega),zD1 _ _ _ (by simp)];exact ziF _ _ _ rfl
 ·exact((d.alloc zH _).alloc (by simp) _).trans (h.mono (by simp;omega))
theorem zGG {a b:World}(d:Below a.heap.size a a.drew)(h:Below (a.drew.alloc (.cells #[.bool false,.int .i64 0] 132)).heap.size (a.drew.alloc (.cells #[.bool false,.int .i64 0] 132)) b):Below a.heap.size a b:=(d.alloc zH _).trans (h.mono (by simp))
theorem z72 {a b:World}(d:Below a.heap.size a a.drew)(h:Below (a.drew.alloc (.cells #[.int .i64 0,.int .i64 0] 25)).heap.size (a.drew.alloc (.cells #[.int .i64 0,.int .i64 0] 25)) b):Below a.heap.size a b:=(d.alloc zH _).trans (h.mono (by simp))
theorem z6o {a b:World}(g:Below a.heap.size a a.drew)(h:Below (a.drew.alloc (.cells #[.bool false,.int .i64 0] 132)).heap.size (a.drew.alloc (.cells #[.bool false,.int .i64 0] 132)) b):zUQ a (b.alloc (.cells #[.int .i64 0,.int .i64 0] 25)) a.heap.size b.heap.size:=by
 have d:=zGG g h;have e:=h.size;simp at e;refine⟨?_,ziF _ _ _ rfl,by omega,Nat.le_refl _,by omega,d.alloc d.size _⟩;rw[zD1 _ _ _ (by omega),h.block _ (by simp)];exact ziF _ _ _ rfl
theorem zAF {a b:World}(g:Below a.heap.size a a.drew)(h:Below (a.drew.alloc (.cells #[.int .i64 0,.int .i64 0] 25)).heap.size (a.drew.alloc (.cells #[.int .i64 0,.int .i64 0] 25)) b):zUQ a (b.alloc (.cells #[.bool false,.int .i64 0] 132)) b.heap.size a.heap.size:=by
 have d:=z72 g h;have e:=h.size;simp at e;refine⟨ziF _ _ _ rfl,?_,by omega,by omega,Nat.le_refl _,d.alloc d.size _⟩;rw[zD1 _ _ _ (by omega),h.block _ (by simp)];exact ziF _ _ _ rfl
theorem zDk {b a:World}(h:Below b.heap.size b a):zUQ b ((a.alloc (.cells #[.bool false,.int .i64 0] 132)).alloc (.cells #[.int .i64 0,.int .i64 0] 25)) a.heap.size (a.alloc (.cells #[.bool false,.int .i64 0] 132)).heap.size:=by
 have d:=h.size;refine⟨?_,ziF _ _ _ rfl,by simp,d,by simp;omega,(h.alloc h.size _).alloc (by simp;omega) _⟩;rw[zD1 _ _ _ (by simp)];exact ziF _ _ _ rfl
theorem zfa {b a:World}(h:Below b.heap.size b a):zUQ b ((a.alloc (.cells #[.int .i64 0,.int .i64 0] 25)).alloc (.cells #[.bool false,.int .i64 0] 132)) (a.alloc (.cells #[.int .i64 0,.int .i64 0] 25)).heap.size a.heap.size:=by
 have d:=h.size;refine⟨ziF _ _ _ rfl,?_,by simp,by simp;omega,d,(h.alloc h.size _).alloc (by simp;omega) _⟩;rw[zD1 _ _ _ (by simp)];exact ziF _ _ _ rfl
theorem zE0 {w a:World}{x y z u:Value}{t:TypeId}(b:Below (w.alloc (.cells #[x,y,z,u] t)).heap.size (w.alloc (.cells #[x,y,z,u] t)) a):a.heap[w.heap.size]?=some (.cells #[x,y,z,u] t (0,0)):=(b.block _ (by simp)).trans (ziF _ _ _ rfl)
theorem zpB {w e:World}(h:Below w.heap.size w e)(a b c d:Value):Below w.heap.size w ((((e.setCell ⟨w.heap.size,0,none⟩ a).setCell ⟨w.heap.size,1,none⟩ b).setCell ⟨w.heap.size,2,none⟩ c).setCell ⟨w.heap.size,3,none⟩ d):=
 (((h.setCell (p:=⟨w.heap.size,0,none⟩) zH _).setCell (p:=⟨w.heap.size,1,none⟩) zH _).setCell (p:=⟨w.heap.size,2,none⟩) zH _).setCell (p:=⟨w.heap.size,3,none⟩) zH _
theorem zVQ {W:World}{b:Nat}{x y z u:Value}{t:TypeId}(h:W.heap[b]?=some (.cells #[x,y,z,u] t (0,0)))(e g a d:Value):((((W.setCell ⟨b,0,none⟩ e).setCell ⟨b,1,none⟩ g).setCell ⟨b,2,none⟩ a).setCell ⟨b,3,none⟩ d).heap[b]?=some (.cells #[e,g,a,d] t (0,0)):=by
 rw[zFg (zFg (zFg (zFg h 0 _) 1 _) 2 _) 3 _];rfl
end Go.Proofs.YtoeoinpaidhmcaaGreatDoor.srch
