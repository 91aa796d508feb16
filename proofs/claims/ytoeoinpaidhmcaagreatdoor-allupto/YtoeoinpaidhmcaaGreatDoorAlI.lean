/- Several texts in one. -/
import Derived.Test.YtoeoinpaidhmcaaGreatDoorAlB
import Derived.Test.YtoeoinpaidhmcaaGreatDoorAlG2
set_option maxHeartbeats 4000000
set_option maxRecDepth 100000
namespace Go.Proofs.YtoeoinpaidhmcaaGreatDoor.jd
open Tryz
open Go.RowKit
open srch (decP vAg opAg M3 Pow zCI zqY stDo lkDo quDo zh8 z2q zYu zV7 zhS zbuZ)
noncomputable def arP (m s:List UInt8)(o:OpV):List UInt8×Int×Int:=if zDs m s=true then ztI s o else([],0,0)
def ApOk (F:FuncId)(m s:List UInt8)(o:OpV)(w:World):Prop:=Calls prog F #[.agg #[],.string ⟨s.toArray⟩,opAg o] w fun e w'=>e=.returned (.tuple #[.string ⟨(arP m s o).1.toArray⟩,vAg (arP m s o).2.1 (arP m s o).2.2,.bool (zDs m s)])∧Below w.heap.size w w'
theorem zHt {F:FuncId}{m s:List UInt8}{o:OpV}{w:World}{g:Bool}(a:zDs m s=g)(h:Calls prog F #[.agg #[],.string ⟨s.toArray⟩,opAg o] w fun e w'=>e=.returned (.tuple #[.string ⟨(if g=true then(ztI s o).1 else []).toArray⟩,vAg (if g=true then(ztI s o).2.1 else 0) (if g=true then(ztI s o).2.2 else 0),.bool g])∧Below w.heap.size w w'):ApOk F m s o w:=by
 unfold ApOk arP;rw[a];cases g<;>exact h
theorem zLi (s:List UInt8):zDs sReg s=(decP s).isSome:=if_pos rfl
theorem ze1 (s:List UInt8):zDs sSet s=(s==[48]||s==[49]):=by unfold zDs;rw[if_neg (by decide),if_pos rfl]
theorem zlr (s:List UInt8):zDs zsK s=quB s:=by unfold zDs;rw[if_neg (by decide),if_neg (by decide),if_pos rfl]
theorem zcw (m s:List UInt8)(a:m=sKv∨m=zyy):zDs m s=(phP s).2:=by
 have h:zDs m s=((decP s).isSome||s==[45]):=by
  rcases a with rfl|rfl<;>(unfold zDs;rw[if_neg (by decide),if_neg (by decide),if_neg (by decide)])
 rw[h];unfold phP;by_cases e:s=[45]
 ·rw[if_pos e,e];rfl
 ·rw[if_neg e,show(s==[45])=false by simpa using e,Bool.or_false]
theorem zqP {s:List UInt8}(h:(phP s).2=true):lkT (phP s).1=s∧lkG (phP s).1:=by
 unfold phP at*;by_cases e:s=[45]
 ·rw[if_pos e];exact⟨by rw[e];rfl,wf_zero,fun _=>rfl⟩
 ·rw[if_neg e]at h⊢;obtain⟨v,a⟩:=Option.isSome_iff_exists.1 h;obtain⟨b,d⟩:=zt6 a;rw[a];exact⟨d.symm,b,fun h=>by cases h⟩
theorem z57 {s:List UInt8}{o:OpV}{w:World}(d:OkM sSet { o with key:=[] }):ApOk 58 sSet s o w:=by
 have a:(s==[48]||s==[49])=true→s=setT (s==[49]):=fun h=>by
  rw[Bool.or_eq_true]at h;rcases h with h|h
  ·obtain rfl:s=[48]:=(by simpa using h);rfl
  ·obtain rfl:s=[49]:=(by simpa using h);rfl
 refine zHt (ze1 s) (zjV .b s (ztI s o).1 o (ztI s o).2.1 (ztI s o).2.2 (s==[48]||s==[49]) (.bool (s==[49])) (.bool (zqY (s==[49]) o).1) w (fun W h=>z54 s W) (fun hg W _=>?_) (fun hg W h=>?_))
 ·have h:=zzL (b:=(s==[49])) d;rw[←a hg]at h;rw[h];exact z2q _ o W
 ·have h:=zzL (b:=(s==[49])) d;rw[←a hg]at h;rw[h];exact z61o _ W
section
variable {s:List UInt8} {o:OpV} {w:World} (hs:s.length≤8000000) (hG:Glob w) (hp:Pow w)
include hs hG hp
theorem zYs (b:OkM sReg { o with key:=[] }):ApOk 55 sReg s o w:=
 zHt (zLi s) (zjV .i s (ztI s o).1 o (ztI s o).2.1 (ztI s o).2.2 (decP s).isSome (.int .i64 ((decP s).getD 0)) (.int .i64 (zCI ((decP s).getD 0) o).1) w
  (fun W h=>zaF s W (by omega) (hG.errs.below (h.mono hG.errs.lt)) (hp.stays h))
  (fun hg W _=>by
   obtain⟨v,a⟩:=Option.isSome_iff_exists.1 hg;rw[zpl b a,a];exact zh8 v o W)
  (fun hg W h=>by
   obtain⟨v,a⟩:=Option.isSome_iff_exists.1 hg;rw[zpl b a,a];exact zdE _ ((z28 [_] (by simpa using b)).step v { o with key:=[] } (zt6 a).1 (by simp)).1 W (hp.stays h)))
theorem zqM (a:wf64 o.arg)(b:OkM zsK { o with key:=[] }):ApOk 57 zsK s o w:=by
 refine zHt (zlr s) (zjV .q s (ztI s o).1 o (ztI s o).2.1 (ztI s o).2.2 (quB s) (.string ⟨(if quB s=true then s else []).toArray⟩) (.string ⟨(quDo s o).1.toArray⟩) w (fun W h=>zOQ s W (by omega) (hG.errs.below (h.mono hG.errs.lt)) (hp.stays h)) (fun hg W h=>?_) (fun hg W h=>?_))
 ·rw[if_pos hg,zGa b ((znb s).1 hg)];exact zhS s o W (by omega) a (hG.below (h.mono hG.errs.lt)) (hp.stays h)
 ·rw[zGa b ((znb s).1 hg)];exact zL6 _ W (by have:=zbuZ s o a;omega)
theorem zDg (b:OkM sKv { o with key:=[] }):ApOk 56 sKv s o w:=by
 refine zHt (zcw sKv s (Or.inl rfl)) (zWW true s (ztI s o).1 o (ztI s o).2.1 (ztI s o).2.2 (phP s).2 (phP s).1 (stDo (phP s).1 o).1 w (fun W h=>zwq s W (by omega) (hG.errs.below (h.mono hG.errs.lt)) (hp.stays h) true) (fun hg W h=>?_) (fun hg W h=>?_))
 ·have a:=(zgn (s:=(phP s).1) b (zqP hg).2).1;rw[(zqP hg).1]at a;rw[a];exact zYu (phP s).1.1 (phP s).1.2 o W
 ·have a:=zgn (s:=(phP s).1) b (zqP hg).2;rw[(zqP hg).1]at a;rw[a.1];exact ztd _ a.2 W (hp.stays h) true
theorem zaM (b:OkM zyy { o with key:=[] }):ApOk 59 zyy s o w:=by
 refine zHt (zcw zyy s (Or.inr rfl)) (zWW false s (ztI s o).1 o (ztI s o).2.1 (ztI s o).2.2 (phP s).2 (phP s).1 (lkDo (phP s).1 o).1 w (fun W h=>zwq s W (by omega) (hG.errs.below (h.mono hG.errs.lt)) (hp.stays h) false) (fun hg W h=>?_) (fun hg W h=>?_))
 ·have a:=(zO8q (s:=(phP s).1) b (zqP hg).2).1;rw[(zqP hg).1]at a;rw[a];exact zV7 (phP s).1.1 (phP s).1.2 o W
 ·have a:=zO8q (s:=(phP s).1) b (zqP hg).2;rw[(zqP hg).1]at a;rw[a.1];exact ztd _ a.2 W (hp.stays h) false
end
theorem zTY (m s:List UInt8)(o:OpV)(w:World)(v:five m)(j:s.length≤8000000)(r:wf64 o.arg)(hG:Glob w)(u:Pow w)(h:OkM m { o with key:=[] }):
 Calls prog 29 #[.string ⟨m.toArray⟩,.string ⟨s.toArray⟩,opAg o] w fun e w'=>e=.returned (.tuple #[.string ⟨(arP m s o).1.toArray⟩,vAg (arP m s o).2.1 (arP m s o).2.2,.bool (zDs m s)])∧Below w.heap.size w w':=by
 obtain⟨I,l,d,x,n⟩:=zIq w o;have b:=hG.below (d.mono hG.errs.lt);have a:=u.stays d;have g:∃F,(m=sReg∧F=55∨m=sKv∧F=56∨m=zsK∧F=57∨m=sSet∧F=58∨m=zyy∧F=59)∧ApOk F m s o I:=by
  rcases v with rfl|rfl|rfl|rfl|rfl
  ·exact⟨_,by simp,zYs j b a h⟩
  ·exact⟨_,Or.inr (Or.inl ⟨rfl,rfl⟩),zDg j b a h⟩
  ·exact⟨_,Or.inr (Or.inr (Or.inl ⟨rfl,rfl⟩)),zqM j b a r h⟩
  ·exact⟨_,Or.inr (Or.inr (Or.inr (Or.inl ⟨rfl,rfl⟩))),z57 h⟩
  ·exact⟨_,Or.inr (Or.inr (Or.inr (Or.inr ⟨rfl,rfl⟩))),zaM j b a h⟩
 obtain⟨F,K,g⟩:=g;unfold ApOk at g;obtain⟨⟨M,U,Q⟩,hR⟩:∃R,Hid (arP m s o=R):=⟨_,rfl⟩;obtain⟨p,q⟩:∃p,Hid (zDs m s=p):=⟨_,rfl⟩;rw[hR.out,q.out]at g⊢;obtain⟨B,C,y,E,H,D,N,L,A,G⟩:=zZN x;have t:=zBq n;clear hG b u a h r v;unfold vAg opAg at*;dsimp only at g⊢;go_enter func29,ntmps29;rcases K with ⟨rfl,rfl⟩|⟨rfl,rfl⟩|⟨rfl,rfl⟩|⟨rfl,rfl⟩|⟨rfl,rfl⟩
 all_goals
  go_wp2_with fail;rw[←l];go_wp2_with fail;refine g.mono ?_;rintro e J ⟨rfl,i⟩;have k:=(i.block _ t).trans n;obtain⟨O,V,P,S⟩:=zWr k;have z:Hid (Below w.heap.size w J):=d.trans (i.mono d.size);clear B C y E H D N L A G i l;go_wp2_with fail;refine bodyPost_ret (zwZ (by kernel_rfl) _ _ (w.heap.size+1) (.string ⟨M.toArray⟩) _ _ (.bool p) rfl rfl rfl (srch.vset k _ _)) rfl ?_;exact⟨rfl,below2 z.out (Nat.le_succ _) _ _⟩
open srch (decP vAg opAg Pow zVe)
theorem z7J (m s:List UInt8)(o:OpV)(w:World)(hs:s.length≤8000000)(ha:wf64 o.arg)(he:wf64 o.exp)(hc:wf64 o.cl)(hG:Glob w)(hp:Pow w):
 Calls prog 16 #[.string ⟨m.toArray⟩,.string ⟨s.toArray⟩,opAg o] w fun e w'=>e=.returned (.tuple #[.string ⟨(znR m s o).1.toArray⟩,vAg (znR m s o).2.1 (znR m s o).2.2.1,.int .i64 (znR m s o).2.2.2])∧Below w.heap.size w w':=by
 obtain⟨W0,aa,p,P,F⟩:=zIq w o;have H:=hG.errs.lt;have K:=hG.below (p.mono H);have hK:=zZL ⟨m.toArray⟩ W0 K.ops K.errs.lt;obtain⟨R,hR⟩:∃R,Hid (znR m s o=R):=⟨_,rfl⟩;rw[hR.out];unfold vAg opAg at*;go_enter func16,ntmps16;go_wp2_with fail;rw[←aa];clear aa;refine hK.mono ?_;rintro e w1 ⟨rfl,A⟩;have i:=(A.block _ (zBq F)).trans F;have x:=(A.block _ (zBq P)).trans P;have b:=p.trans (A.mono p.size);have k:=zBq i;clear hK A F P p K;cases hk:zOI m opTab with
 |false=>
   obtain rfl:R=([],0,0,1):=(by rw[←hR.out];exact if_pos hk);obtain⟨v0,v1,z0,z1⟩:=zWr i;clear hk hR;go_wp2_with fail;refine bodyPost_ret (zwZ (by kernel_rfl) _ _ (w.heap.size+1) (.string ⟨#[]⟩) (.int .i64 0) (.int .i64 0) (.int .i64 1) rfl rfl rfl (by first|exact i|exact srch.vset i _ _)) rfl ?_;exact⟨rfl,by first|exact b|exact below2 b (Nat.le_succ _) _ _⟩
 |true=>
   have ad:=zVe hk;have Z:Hid (R=if zco m o.name opTab=none then([],0,0,2)else if zDs m s=false then([],0,0,3)else((ztI s o).1,(ztI s o).2.1,(ztI s o).2.2,0)):=by
    show _=_;rw[←hR.out];exact if_neg (by rw[hk];simp)
   have L:=hG.below (b.mono H);have hF:=zoY ⟨m.toArray⟩ ⟨o.name.toArray⟩ w1 L.ops L.errs.lt;rw[show(⟨m.toArray⟩:ByteArray).data.toList=m from rfl,show(⟨o.name.toArray⟩:ByteArray).data.toList=o.name from rfl]at hF;obtain⟨a0,a1,a2,a3,a4,a5,a6,a7,a8,a9⟩:=zZN x;clear hk hR;go_wp2_with fail;refine hF.mono ?_;rintro e w2 ⟨y,ae⟩;obtain⟨f1,V,Y,U,ok,j,rfl⟩:∃f1 V Y U ok,ok=(zco m o.name opTab).isSome∧e=.returned (.tuple #[zQS (f1,V,Y,U),.bool ok]):=by
    rcases ae with ⟨⟨f1,V,Y,U⟩,h,rfl⟩|⟨h,rfl⟩
    ·exact⟨f1,V,Y,U,true,by rw[h];rfl,rfl⟩
    ·exact⟨_,_,_,_,false,by rw[h];rfl,rfl⟩
   have l:Hid _:=j;have M:=(y.block _ k).trans i;have G:=(y.block _ (zBq x)).trans x;have n:=b.trans (y.mono b.size);clear hF ae j y i x b L k a0 a1 a2 a3 a4 a5 a6 a7 a8 a9;unfold zQS;dsimp only;go_upto_region 4 with fail;generalize hX:w2.alloc _=X at*;have z:Below w2.heap.size w2 X:=(by rw[←hX];exact zA _ _);have d:=(z.block _ (zBq M)).trans M;have af:=(z.block _ (zBq G)).trans G;have a:=n.trans (z.mono n.size);clear hX z M G n;cases ok with
   |false=>
     have hn:zco m o.name opTab=none:=by
      cases h:zco m o.name opTab with
      |none=>rfl
      |some r=>rw[h]at l;exact absurd l.out (by simp)
     obtain rfl:R=([],0,0,2):=Z.out.trans (if_pos hn);obtain⟨v0,v1,z0,z1⟩:=zWr d;clear Z hn l;go_wp2_with fail;refine bodyPost_ret (zwZ (by kernel_rfl) _ _ (w.heap.size+1) (.string ⟨#[]⟩) (.int .i64 0) (.int .i64 0) (.int .i64 2) rfl rfl rfl (by first|exact d|exact srch.vset d _ _)) rfl ?_;exact⟨rfl,by first|exact a|exact below2 a (Nat.le_succ _) _ _⟩
   |true=>
     obtain⟨r,hr⟩:=Option.isSome_iff_exists.1 l.out.symm;have j:=zyI hr ha he hc;have t:Hid (R=if zDs m s=false then([],0,0,3)else((ztI s o).1,(ztI s o).2.1,(ztI s o).2.2,0)):=Z.out.trans (if_neg (by rw[hr];simp));have J:=zTY m s o X ad hs ha (hG.below (a.mono H)) (hp.stays a) j;obtain⟨⟨r1,r2,S⟩,u⟩:∃q,Hid (arP m s o=q):=⟨_,rfl⟩;obtain⟨gb,g⟩:∃gb,Hid (zDs m s=gb):=⟨_,rfl⟩;rw[u.out,g.out]at J;unfold vAg opAg at J;dsimp only at J;obtain⟨a0,a1,a2,a3,a4,a5,a6,a7,a8,a9⟩:=zZN af;have k:=zBq d;clear Z hr l j ad hG hp ha he hc;go_wp2_with fail;refine J.mono ?_;rintro e B ⟨rfl,Q⟩;have v:=(Q.block _ k).trans d;have N:Hid (Below w.heap.size w B):=a.trans (Q.mono a.size);clear J a0 a1 a2 a3 a4 a5 a6 a7 a8 a9 Q a af d k;go_upto_region 7 with fail;obtain⟨C,ag,D,ab⟩:∃C,C=B.alloc (.cells #[.int .i64 r2,.int .i64 S] 25)∧Below B.heap.size B C∧C.heap[B.heap.size]?=some (.cells #[.int .i64 r2,.int .i64 S] 25 (0,0)):=⟨_,rfl,zA _ _,ziF _ _ _ rfl⟩;rw[←ag];have E:=(D.block _ (zBq v)).trans v;have O:Hid (Below w.heap.size w C):=N.out.trans (D.mono N.out.size);have ah:B.heap.size≠w.heap.size+1:=(by have:=zBq v;omega);obtain⟨v0,v1,z0,z1⟩:=zWr E;obtain⟨u0,u1,y0,y1⟩:=zWr ab;have I:Hid _:=E;clear ag D ab N E v;cases gb with
     |false=>
       obtain rfl:R=([],0,0,3):=t.out.trans (if_pos g.out);clear t g u;go_wp2_with fail;refine bodyPost_ret (zwZ (by kernel_rfl) _ _ (w.heap.size+1) (.string ⟨#[]⟩) (.int .i64 0) (.int .i64 0) (.int .i64 3) rfl rfl rfl (by first|exact I.out|exact srch.vset I.out _ _)) rfl ?_;exact⟨rfl,by first|exact O.out|exact below2 O.out (Nat.le_succ _) _ _⟩
     |true=>
       have hD:ztI s o=(r1,r2,S):=(by rw[←u.out];exact(if_pos g.out).symm);obtain rfl:R=(r1,r2,S,0):=(by rw[t.out,if_neg (by rw[g.out];simp),hD]);clear t g u hD;go_wp2_with fail;go_region
       all_goals
        go_wp2_with fail;refine bodyPost_ret (zwZ (by kernel_rfl) _ _ (w.heap.size+1) (.string ⟨r1.toArray⟩) _ _ (.int .i64 0) rfl rfl rfl (srch.vset (W:=C.drew) I.out _ _)) rfl ?_;exact⟨rfl,below2 O.out.drew (Nat.le_succ _) _ _⟩
theorem z6W (m s:List UInt8)(o:OpV)(w:World)(hm:m.length≤8000000)(hs:s.length≤8000000)(hn:o.name.length≤8000000)(Z:wf64 o.arg)(he:wf64 o.exp)(hc:wf64 o.cl)(hG:Glob w)(hp:Pow w)(j:Mods w):
 Calls prog 8 #[.string ⟨m.toArray⟩,.string ⟨s.toArray⟩,opAg o] w fun e w'=>e=.returned (.bool true)∧Below w.heap.size w w':=by
 have p:=hG.errs.lt;obtain⟨r,G,b,i⟩:∃r,r=w.alloc (.cells (opB o) 27)∧Below w.heap.size w r∧r.heap[w.heap.size]?=some (.cells (opB o) 27 (0,0)):=⟨_,rfl,zA _ _,ziF _ _ _ rfl⟩;have L:=z7J m s o r hs Z he hc (hG.below (b.mono p)) (hp.stays b);have hR:=fun W (h:Below w.heap.size w W)=>zvZ m s o W (j.below (h.mono p)) (Nat.le_trans p h.size) hm hs hn Z he hc;obtain⟨⟨r1,C,A,r4⟩,hq⟩:∃q,Hid (znR m s o=q):=⟨_,rfl⟩;simp only [hq.out]at L hR;have HR:Hid _:=hR;clear hR hG hp j;obtain⟨O,P,M,S,V,Q,Y,X,N,U⟩:=zZN i;unfold vAg opAg at*;go_enter func8,ntmps8;go_wp2_with fail;rw[←G];go_wp2_with fail;refine L.mono ?_;rintro e D ⟨rfl,z⟩;have k:=(z.block _ (zBq i)).trans i;have g:=b.trans (z.mono b.size);clear L G z b i O P M S V Q Y X N U;go_upto_region 2 with fail;obtain⟨n,H,l,v⟩:∃n,n=D.alloc (.cells #[.int .i64 C,.int .i64 A] 25)∧Below D.heap.size D n∧n.heap[D.heap.size]?=some (.cells #[.int .i64 C,.int .i64 A] 25 (0,0)):=⟨_,rfl,zA _ _,ziF _ _ _ rfl⟩;rw[←H];have J:=(l.block _ (zBq k)).trans k;have a:=g.trans (l.mono g.size);have F:=HR.out n a;obtain⟨O,P,M,S,V,Q,Y,X,N,U⟩:=zZN J;clear H l k g HR;go_wp2_with fail;refine F.mono ?_;rintro e B ⟨rfl,x⟩;have t:=(x.block _ (zBq v)).trans v;have d:=a.trans (x.mono a.size);clear F x v J a O P M S V Q Y X N U;go_upto_region 3 with fail;obtain⟨E,K,y,I⟩:∃E,E=B.alloc (.cells #[.int .i64 C,.int .i64 A] 25)∧Below B.heap.size B E∧E.heap[B.heap.size]?=some (.cells #[.int .i64 C,.int .i64 A] 25 (0,0)):=⟨_,rfl,zA _ _,ziF _ _ _ rfl⟩;rw[←K];have u:=(y.block _ (zBq t)).trans t;have R:=d.trans (y.mono d.size);obtain⟨v0,v1,_,_⟩:=zWr u;obtain⟨u0,u1,_,_⟩:=zWr I;clear K y t u I d;go_wp2_with fail;go_ret;exact⟨rfl,R⟩
end Go.Proofs.YtoeoinpaidhmcaaGreatDoor.jd
