/- Several texts in one. -/
import Derived.Test.YtoeoinpaidhmcaaGreatDoorJdPh
set_option maxHeartbeats 2000000
set_option maxRecDepth 100000
namespace Go.Proofs.YtoeoinpaidhmcaaGreatDoor.jd
open Go.RowKit
open srch (decP decP_ok zgx zCI zqY stDo lkDo quDo)
theorem zt6 {s:List UInt8}{v:Int}(h:decP s=some v):wf64 v∧s=Lib.itoa v:=by
 unfold decP at h;cases e:Lib.parseIntB 64 s with
 |ok x=>
   have a:=Lib.parseIntB_bounds e;rw[e]at h;dsimp only at h;split at h
   ·rename_i hi;injection h with h;subst h;exact⟨⟨by have:=a.1;omega,by have:=a.2;omega⟩,hi.symm⟩
   ·cases h
 |«syntax»=>rw[e]at h;cases h
 |range=>rw[e]at h;cases h
theorem zVv (s:List UInt8):(z7y s).2=(decP s).isSome:=by
 cases h:decP s with
 |some v=>
   obtain⟨a,rfl⟩:=zt6 h;rw[zmn v a.1 a.2];rfl
 |none=>
   cases e:(z7y s).2 with
   |false=>rfl
   |true=>
     have b:((zyu (nats s)).2&&decide (s=Lib.itoa (zyu (nats s)).1))=true:=e;rw[Bool.and_eq_true]at b;have g:=of_decide_eq_true b.2;have d:=z15 (zMZc (nats s));rw[←g,h]at d;cases d
def quN (s:List UInt8):Prop:=∃xs:List Int,xs≠[]∧(∀x∈xs,wf64 x)∧s=quT xs
theorem zCL {s:List UInt8}(h:s≠[]):quG s↔quN s:=by
 constructor
 ·rintro⟨b,a,rfl⟩;exact⟨b,fun e=>h (by rw[e];rfl),a,rfl⟩
 ·rintro⟨b,_,a,d⟩;exact⟨b,a,d⟩
theorem z7I {s:List UInt8}(i:∀c∈s,c≠44):quN s↔(decP s).isSome=true:=by
 constructor
 ·rintro⟨b,d,a,rfl⟩;cases b with
  |nil=>exact absurd rfl d
  |cons x r=>
    cases r with
    |nil=>rw[show quT [x]=Lib.itoa x from rfl,z15 (a x (by simp))];rfl
    |cons y r=>exact absurd rfl (i 44 (by simp[quT]))
 ·intro h;obtain⟨v,e⟩:=Option.isSome_iff_exists.1 h;obtain⟨a,g⟩:=zt6 e;exact⟨[v],by simp,by simpa using a,g⟩
theorem zKu {a b:List UInt8}(l:∀c∈a,c≠44):quN (a++44::b)↔(decP a).isSome=true∧quN b:=by
 constructor
 ·rintro⟨e,i,d,j⟩;cases e with
  |nil=>exact absurd rfl i
  |cons x r=>
    have g:=z89 a b l;rw[j,zn4]at g;obtain⟨rfl,rfl⟩:=Prod.mk.inj g;refine⟨by rw[z15 (d x (by simp))];rfl,r,?_,fun y hy=>d y (by simp[hy]),rfl⟩;rintro rfl;have m:=congrArg List.length j;simp[quT]at m
 ·rintro⟨h,e,i,d,rfl⟩;obtain⟨v,k⟩:=Option.isSome_iff_exists.1 h;obtain⟨g,rfl⟩:=zt6 k;refine⟨v::e,by simp,fun x hx=>?_,?_⟩
  ·rcases List.mem_cons.1 hx with rfl|hx
   ·exact g
   ·exact d x hx
  ·rw[zOC v e i,List.append_assoc];rfl
theorem z1h (s:List UInt8):(s=(headR s).1∧(headR s).2=[]∨s=(headR s).1++44::(headR s).2)∧∀c∈(headR s).1,c≠44:=by
 induction s with
 |nil=>simp[headR]
 |cons c t ih=>
   rw[headR];split
   ·rename_i hc;subst hc;exact⟨Or.inr rfl,by simp⟩
   ·rename_i hc;refine⟨?_,fun x hx=>?_⟩
    ·rcases ih.1 with ⟨a,b⟩|a
     ·exact Or.inl ⟨by dsimp only;rw[←a],b⟩
     ·refine Or.inr ?_;dsimp only;rw[List.cons_append,←a]
    ·rcases List.mem_cons.1 hx with rfl|hx
     ·exact hc
     ·exact ih.2 x hx
theorem zpc {s:List UInt8}(h:s≠[]):quG s↔(decP (headR s).1).isSome=true∧s.getLast?≠some 44∧quG (headR s).2:=by
 rw[zCL h];obtain⟨j,d⟩:=z1h s;generalize (headR s).1=a at j d⊢;generalize (headR s).2=b at j d⊢;rcases j with ⟨rfl,rfl⟩|rfl
 ·rw[z7I d];refine⟨fun e=>⟨e,fun e2=>d 44 (List.mem_of_getLast? e2) rfl,[],by simp,rfl⟩,fun e=>e.1⟩
 ·rw[zKu d];by_cases hb:b=[]
  ·subst hb;refine⟨fun e=>?_,fun e=>absurd (by simp) e.2.1⟩;obtain⟨_,g,k,t,p⟩:=e;cases g with
   |nil=>exact absurd rfl k
   |cons x r=>exact absurd p.symm (zlj (t x (by simp)) r)
  ·rw[←zCL hb];refine⟨fun e=>⟨e.1,?_,e.2⟩,fun e=>⟨e.1,e.2.2⟩⟩;obtain⟨_,g,k,rfl⟩:=e;have q:∀i:List Int,(∀y∈i,wf64 y)→(quT i).getLast?≠some 44:=by
    intro i
    induction i with
    |nil=>simp[quT]
    |cons y r ih=>
      intro l;cases r with
      |nil=>exact fun e=>zoP (a:=y) 44 (List.mem_of_getLast? e) rfl
      |cons z r=>
        rw[zOC y _ (by simp),List.getLast?_append];have o:=zlj (l z (by simp)) r;have m:=ih (fun x hx=>l x (by simp[hx]));cases e:(quT (z::r)).getLast? with
        |none=>exact absurd (List.getLast?_eq_none_iff.1 e) o
        |some c=>rw[e]at m;simpa using m
   have n:=q g k;rw[List.getLast?_append,List.getLast?_cons];cases e:(quT g).getLast? with
   |none=>exact absurd (List.getLast?_eq_none_iff.1 e) hb
   |some c=>rw[e]at n;simpa using n
open Classical in
noncomputable def quB (s:List UInt8):Bool:=decide (quG s)
noncomputable def zDs (m s:List UInt8):Bool:=if m=sReg then(decP s).isSome else if m=sSet then s==[48]||s==[49]else if m=zsK then quB s else(decP s).isSome||s==[45]
noncomputable def znR (m s:List UInt8)(o:OpV):List UInt8×Int×Int×Int:=
 if zOI m opTab=false then([],0,0,1)else if zco m o.name opTab=none then([],0,0,2)else if zDs m s=false then([],0,0,3)else((ztI s o).1,(ztI s o).2.1,(ztI s o).2.2,0)
theorem zyI {m:List UInt8}{o:OpV}{r:zqk}(b:zco m o.name opTab=some r)(e:wf64 o.arg)(g:wf64 o.exp)(d:wf64 o.cl):OkM m { o with key:=[] }:=by
 have a:=List.find?_some b;rw[Bool.and_eq_true]at a;exact⟨⟨⟨r,List.mem_of_find?_eq_some b,by simpa using a.1,by simpa using a.2⟩,g,fun _=>rfl⟩,e,d⟩
theorem zpl {s:List UInt8}{o:OpV}{v:Int}(h:OkM sReg { o with key:=[] })(b:decP s=some v):ztI s o=(Lib.itoa (zCI v o).1,(zCI v o).2):=by
 obtain⟨a,rfl⟩:=zt6 b;exact((z28 [_] (by simpa using h)).step v { o with key:=[] } a (by simp)).2
theorem zzL {b:Bool}{o:OpV}(h:OkM sSet { o with key:=[] }):ztI (setT b) o=(setT (zqY b o).1,(zqY b o).2):=
 ((zuQ [_] (by simpa using h)).step b { o with key:=[] } trivial (by simp)).2
theorem zgn {s:Bool×Int}{o:OpV}(h:OkM sKv { o with key:=[] })(b:lkG s):ztI (lkT s) o=(lkT (stDo s o).1,(stDo s o).2)∧wf64 (stDo s o).1.2:=
 have a:=(zpM [_] (by simpa using h)).step s { o with key:=[] } b (by simp)
 ⟨a.2,a.1.1⟩
theorem zO8q {s:Bool×Int}{o:OpV}(h:OkM zyy { o with key:=[] })(b:lkG s):ztI (lkT s) o=(lkT (lkDo s o).1,(lkDo s o).2)∧wf64 (lkDo s o).1.2:=
 have a:=(zFR [_] (by simpa using h)).step s { o with key:=[] } b (by simp)
 ⟨a.2,a.1.1⟩
theorem zGa {s:List UInt8}{o:OpV}(h:OkM zsK { o with key:=[] })(a:quG s):ztI s o=((quDo s o).1,(quDo s o).2):=
 ((zSZ [_] (by simpa using h)).step s { o with key:=[] } a (by simp)).2
open Tryz
open srch (decP z88 zJf Pow)
def phP (s:List UInt8):(Bool×Int)×Bool:=if s=[45]then((false,0),true)else(((decP s).isSome,(decP s).getD 0),(decP s).isSome)
def phV (p:Bool×Int):Value:=.agg #[.bool p.1,.int .i64 p.2]
theorem pset {W:World}{b t:Nat}{x y:Value}(h:W.heap[b]?=some (.cells #[x,y] t (0,0)))(a d:Value):((W.setCell ⟨b,0,none⟩ a).setCell ⟨b,1,none⟩ d).heap[b]?=some (.cells #[a,d] t (0,0)):=by
 rw[zFg (zFg h 0 _) 1 _];rfl
theorem z6u (a:Array Value)(W:World)(b:Nat)(d e t:Value)(h:a[2]?.getD undef=.pointer (some ⟨b,0,none⟩))(i:a[3]?.getD undef=t)(g:W.heap[b]?=some (.cells #[d,e] 132 (0,0))):
 (results Tryz.f253 a).run prog W=.ok (.tuple #[.agg #[d,e],t]) W:=by
 have c0:W.cell? ⟨b,0,none⟩=some d:=by rw[zBk g];rfl
 have c1:W.cell? ⟨b,1,none⟩=some e:=by rw[zBk g];rfl
 simp[results,results253,go_sem,h,i,c0,c1]
theorem zxf (s:List UInt8)(w:World)(o:s.length≤100000000)(j:Errs w)(m:Pow w):
 Calls prog 253 #[.string ⟨s.toArray⟩] w fun e w'=>e=.returned (.tuple #[phV (phP s).1,.bool (phP s).2])∧Below w.heap.size w w':=by
 obtain⟨g,d,a,hB⟩:∃g,g=w.alloc (.cells #[.bool false,.int .i64 0] 132)∧Below w.heap.size w g∧g.heap[w.heap.size]?=some (.cells #[.bool false,.int .i64 0] 132 (0,0)):=⟨_,rfl,zA _ _,ziF _ _ _ rfl⟩;have i:=zJf s g o (j.below (a.mono j.lt)) (m.stays a);obtain⟨R,hR⟩:∃R,Hid (phP s=R):=⟨_,rfl⟩;rw[hR.out];unfold phV;go_enter func253,ntmps253;cases hq:(s==[45])with
 |true=>
   obtain rfl:R=((false,0),true):=(by rw[←hR.out];exact if_pos (by simpa using hq));have c0:=zBk hB 0;have c1:=zBk hB 1;have k:=zBn hB 0;have n:=zBn hB 1;simp at c0 c1;clear i;go_wp2;rw[←d];go_wp2;refine bodyPost_ret (z6u _ _ w.heap.size _ _ (.bool true) rfl rfl hB) rfl ?_;exact⟨rfl,a⟩
 |false=>
   obtain rfl:R=(((decP s).isSome,(decP s).getD 0),(decP s).isSome):=(by rw[←hR.out];exact if_neg (by simpa using hq));clear hR;go_wp2_with fail;rw[←d];refine i.mono ?_;rintro e q ⟨rfl,h⟩;have b:=(h.block _ (zBq hB)).trans hB;have c0:=zBk b 0;have c1:=zBk b 1;have k:=zBn b 0;have n:=zBn b 1;simp at c0 c1;have l:Hid _:=a.trans (h.mono a.size);clear i d;go_wp2;refine bodyPost_ret (z6u _ _ w.heap.size _ _ (.bool (decP s).isSome) rfl rfl (pset b _ _)) rfl ?_;exact⟨rfl,(l.out.setCell (p:=⟨w.heap.size,0,none⟩) zH _).setCell (p:=⟨w.heap.size,1,none⟩) zH _⟩
theorem z3B (q:Bool)(a:Array Value)(W:World)(b:Nat)(d e t:Value)(h:a[4]?.getD undef=.pointer (some ⟨b,0,none⟩))(i:a[5]?.getD undef=t)(g:W.heap[b]?=some (.cells #[d,e] 132 (0,0))):
 (results (if q then Tryz.f251 else Tryz.f268) a).run prog W=.ok (.tuple #[.agg #[d,e],t]) W:=by
 have c0:W.cell? ⟨b,0,none⟩=some d:=by rw[zBk g];rfl
 have c1:W.cell? ⟨b,1,none⟩=some e:=by rw[zBk g];rfl
 cases q<;>simp[results,results251,results268,go_sem,h,i,c0,c1]
theorem zwq (s:List UInt8)(w:World)(u:s.length≤100000000)(m:Errs w)(r:Pow w)(q:Bool):
 Calls prog (if q then 251 else 268) #[.agg #[],.string ⟨s.toArray⟩] w fun e w'=>e=.returned (.tuple #[phV (phP s).1,.bool (phP s).2])∧Below w.heap.size w w':=by
 have l:=fun W (h:Below w.heap.size w W)=>zxf s W u (m.below (h.mono m.lt)) (r.stays h);unfold phV at*;generalize phP s=R at*;obtain⟨⟨B,C⟩,x⟩:=R;have o:Hid _:=l;clear l;have j:=z3B q;have k:∀t,∃d,d=(w.alloc (.cells #[] t)).alloc (.cells #[.bool false,.int .i64 0] 132)∧Below w.heap.size w d∧d.heap[w.heap.size+1]?=some (.cells #[.bool false,.int .i64 0] 132 (0,0)):=fun t=>⟨_,rfl,(zA _ _).alloc (by simp) _,ziF _ _ _ (by simp)⟩;cases q
 all_goals
  first|go_enter func251,ntmps251|go_enter func268,ntmps268
  go_wp2_with fail;obtain⟨d,i,b,hB⟩:=k _;rw[←i];refine(o.out d b).mono ?_;rintro e y ⟨rfl,g⟩;have a:=(g.block _ (zBq hB)).trans hB;have c0:=zBk a 0;have c1:=zBk a 1;have z:=zBn a 0;have A:=zBn a 1;simp at c0 c1;have n:Hid _:=b.trans (g.mono b.size);have v:Hid _:=j;clear i k j;go_wp2;refine bodyPost_ret (v.out _ _ (w.heap.size+1) _ _ (.bool x) rfl rfl (pset a _ _)) rfl ?_;exact⟨rfl,(n.out.setCell (p:=⟨w.heap.size+1,0,none⟩) (Nat.le_succ _) _).setCell (p:=⟨w.heap.size+1,1,none⟩) (Nat.le_succ _) _⟩
theorem zaF (s:List UInt8)(w:World)(l:s.length≤100000000)(i:Errs w)(k:Pow w):
 Calls prog 243 #[.agg #[],.string ⟨s.toArray⟩] w fun e w'=>e=.returned (.tuple #[.int .i64 ((decP s).getD 0),.bool (decP s).isSome])∧Below w.heap.size w w':=by
 obtain⟨b,g,a⟩:∃b,b=w.alloc (.cells #[] 129)∧Below w.heap.size w b:=⟨_,rfl,zA _ _⟩;have h:=zJf s b l (i.below (a.mono i.lt)) (k.stays a);generalize (decP s).getD 0=r at*;generalize (decP s).isSome=r2 at*;go_enter func243,ntmps243;go_wp2_with fail;rw[←g];refine h.mono ?_;rintro e m ⟨rfl,d⟩;have j:Hid _:=a.trans (d.mono a.size);clear g h d;go_wp2;go_ret2;exact⟨rfl,j.out⟩
theorem zdE (n:Int)(h:wf64 n)(w:World)(k:Pow w):
 Calls prog 244 #[.agg #[],.int .i64 n] w fun e w'=>e=.returned (.string ⟨(Lib.itoa n).toArray⟩)∧Below w.heap.size w w':=by
 obtain⟨b,g,a⟩:∃b,b=w.alloc (.cells #[] 129)∧Below w.heap.size w b:=⟨_,rfl,zA _ _⟩;have i:=z88 n h.1 h.2 b (k.stays a);generalize Lib.itoa n=t at*;go_enter func244,ntmps244;go_wp2_with fail;rw[←g];refine i.mono ?_;rintro e l ⟨rfl,d⟩;have j:Hid _:=a.trans (d.mono a.size);clear g i d;go_wp2;go_ret;exact⟨rfl,j.out⟩
theorem zIO (p:Bool×Int)(h:wf64 p.2)(w:World)(l:Pow w):
 Calls prog 249 #[phV p] w fun e w'=>e=.returned (.string ⟨(lkT p).toArray⟩)∧Below w.heap.size w w':=by
 obtain⟨b,d,a,hB⟩:∃b,b=w.alloc (.cells #[.bool p.1,.int .i64 p.2] 132)∧Below w.heap.size w b∧b.heap[w.heap.size]?=some (.cells #[.bool p.1,.int .i64 p.2] 132 (0,0)):=⟨_,rfl,zA _ _,ziF _ _ _ rfl⟩;have i:=z88 p.2 h.1 h.2 b (l.stays a);have c0:=zBk hB 0;have c1:=zBk hB 1;simp at c0 c1;obtain⟨m,k⟩:=p;unfold lkT phV;dsimp only at*;generalize Lib.itoa k=t at*;clear hB h;go_enter func249,ntmps249;cases m with
 |true=>
   go_wp2_with fail;rw[←d];go_wp2_with fail;refine i.mono ?_;rintro e n ⟨rfl,g⟩;have j:Hid _:=a.trans (g.mono a.size);clear d i g;go_wp2;go_ret;exact⟨rfl,j.out⟩
 |false=>
   go_wp2_with fail;rw[←d];go_wp2;go_ret;exact⟨rfl,a⟩
theorem ztd (p:Bool×Int)(h:wf64 p.2)(w:World)(m:Pow w)(q:Bool):
 Calls prog (if q then 252 else 269) #[.agg #[],phV p] w fun e w'=>e=.returned (.string ⟨(lkT p).toArray⟩)∧Below w.heap.size w w':=by
 have j:=fun W (h':Below w.heap.size w W)=>zIO p h W (m.stays h');have i:∀t,∃b,b=(w.alloc (.cells #[] t)).alloc (.cells #[.bool p.1,.int .i64 p.2] 132)∧Below w.heap.size w b∧b.heap[w.heap.size+1]?=some (.cells #[.bool p.1,.int .i64 p.2] 132 (0,0)):=fun t=>⟨_,rfl,(zA _ _).alloc (by simp) _,ziF _ _ _ (by simp)⟩;generalize lkT p=t at*;unfold phV at*;have l:Hid _:=j;clear j;cases q
 all_goals
  first|go_enter func252,ntmps252|go_enter func269,ntmps269
  go_wp2_with fail;obtain⟨b,g,a,hB⟩:=i _;have c0:=zBk hB 0;have c1:=zBk hB 1;simp at c0 c1;rw[←g];clear i hB;go_wp2_with fail;refine(l.out _ a).mono ?_;rintro e n ⟨rfl,d⟩;have k:Hid _:=a.trans (d.mono a.size);clear g d;go_wp2;go_ret;exact⟨rfl,k.out⟩
theorem z54 (s:List UInt8)(w:World):
 Calls prog 265 #[.agg #[],.string ⟨s.toArray⟩] w fun e w'=>e=.returned (.tuple #[.bool (s==[49]),.bool (s==[48]||s==[49])])∧Below w.heap.size w w':=by
 go_enter func265,ntmps265;cases hq:(s==[49])with
 |true=>
   go_wp2;go_ret2;exact⟨by simp,zA _ _⟩
 |false=>
   go_wp2;go_ret2;exact⟨by simp,zA _ _⟩
theorem z61o (b:Bool)(w:World):
 Calls prog 266 #[.agg #[],.bool b] w fun e w'=>e=.returned (.string ⟨(setT b).toArray⟩)∧Below w.heap.size w w':=by
 unfold setT;go_enter func266,ntmps266;cases b
 all_goals
  go_wp2;go_ret;exact⟨rfl,zA _ _⟩
end Go.Proofs.YtoeoinpaidhmcaaGreatDoor.jd
