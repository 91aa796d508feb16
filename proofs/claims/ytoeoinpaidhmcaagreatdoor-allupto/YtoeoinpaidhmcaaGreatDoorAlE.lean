/- Several texts in one. -/
import Derived.Test.YtoeoinpaidhmcaaGreatDoorAlA
set_option maxHeartbeats 4000000
set_option maxRecDepth 100000
namespace Go.Proofs.YtoeoinpaidhmcaaGreatDoor.jd
open Go.RowKit
open srch (decP vAg opAg)
def zJF (v:Value):Nat:=match v with|.string b=>b.size|_=>0
theorem znb (s:List UInt8):quB s=true↔quG s:=by unfold quB;exact @decide_eq_true_iff _ (Classical.propDecidable _)
theorem zIR (m s:List UInt8)(J:five m)(w:World)(N:s.length≤8000000):
 Calls Tryz.prog 32 #[.string ⟨m.toArray⟩,.string ⟨s.toArray⟩] w fun e w'=>e=.returned (.bool (zDs m s))∧Below w.heap.size w w':=by
 have d:=zku s w (by omega);rw[zVv]at d;have hG:zDs m s=if m=sReg then(decP s).isSome else if m=sSet then s==[48]||s==[49]else if m=zsK then quB s else(decP s).isSome||s==[45]:=rfl
 obtain⟨R,hR⟩:∃R,R=zDs m s:=⟨_,rfl⟩;rw[←hR]at hG⊢;clear hR;have j:Hid _:=hG;clear hG;generalize (z7y s).1=x at*;generalize hD:(decP s).isSome=dd at*;clear hD;go_enter Tryz.func32,Tryz.ntmps32;go_wp2_with fail;refine d.mono ?_;rintro e P ⟨rfl,u⟩;have l:Hid _:=u;clear d u;rcases J with rfl|rfl|rfl|rfl|rfl
 ·obtain rfl:R=dd:=j.out;go_wp2;go_ret;exact⟨rfl,l.out⟩
 ·obtain rfl:R=(dd||s==[45]):=j.out;cases dd
  all_goals
   go_wp2;go_ret;exact⟨by simp,l.out⟩
 ·obtain rfl:R=quB s:=j.out;clear j;unfold zsK;go_wp2_with fail;go_loopw [1] (fun st wr=>∃a:List UInt8,st=.string ⟨a.toArray⟩∧a.length≤s.length∧Hid (quG s↔quG a)∧Hid (Below w.heap.size w wr)) (fun st _=>zJF st)
  case atStart=>exact⟨s,rfl,Nat.le_refl _,Iff.rfl,l⟩
  case round=>
   obtain⟨a,rfl,M,k,p⟩:=hrel;by_cases hne:a=[]
   ·subst hne;have g:Hid (quB s=true):=(by show _=_;rw[znb,k.out];exact⟨[],by simp,rfl⟩);go_wp2_with fail;go_ret;exact⟨by rw[g.out];rfl,p.out⟩
   ·have O:(a==[])=false:=(by simpa using hne);have q:=zpc hne;have B:=zS3 a wr (by omega);have K:=(zGM a).1;have E:=(zGM a).2;have C:(headR a).2.length<a.length:=by
     rcases(z1h a).1 with ⟨A,D⟩|A
     ·rw[D];exact List.length_pos_iff.2 hne
     ·have:=congrArg List.length A;simp at this;omega
    have d:=fun W=>zku (headR a).1 W (by omega);simp only [zVv]at d;generalize hH:headR a=H at*;obtain⟨v,z⟩:=H;dsimp only at*;clear hH;generalize (z7y v).1=x2 at*;generalize (decP v).isSome=d2 at*;obtain⟨n,I⟩:∃n,a.length=n+1:=⟨a.length-1,by have:=List.length_pos_iff.2 hne;omega⟩;have G:n<(⟨a.toArray⟩:ByteArray).size:=(by show n<a.toArray.size;simp;omega);have h:(⟨a.toArray⟩:ByteArray)[n]'G=a[n]:=(by show a.toArray[n]'(by simp;omega)=a[n];simp);have Q:IntKind.i64.wrap ((a.length:Int)-1)=(n:Int):=(by rw[IntKind.wrap_i64];omega);have i:a.getLast?=some a[n]:=(by rw[List.getLast?_eq_getElem?,I];simp);rw[i]at q;have b:Hid _:=q;clear q i hne;go_wp2_with fail;refine B.mono ?_;rintro e L ⟨rfl,o⟩;go_wp2_with fail;refine(d _).mono ?_;rintro e F ⟨rfl,t⟩;have r:Hid (Below w.heap.size w F):=p.out.trans ((o.trans (t.mono o.size)).mono p.out.size);clear B d o t;cases d2 with
    |false=>
      have g:Hid (quB s=false):=by
       show _=_;rw[←Bool.not_eq_true,znb,k.out,b.out];simp
      go_wp2_with fail;go_ret;exact⟨by rw[g.out];rfl,r.out⟩
    |true=>
      by_cases hc:a[n]=44
      ·have y:(((((⟨a.toArray⟩:ByteArray)[n]'G).toNat:Int)==44))=true:=(by rw[h,hc];decide);have g:Hid (quB s=false):=by
        show _=_;rw[←Bool.not_eq_true,znb,k.out,b.out,hc];simp
       clear h hc b;go_wp2_with fail;go_ret;exact⟨by rw[g.out];rfl,r.out⟩
      ·have y:(((((⟨a.toArray⟩:ByteArray)[n]'G).toNat:Int)==44))=false:=by
        rw[h];have:a[n].toNat≠44:=fun e=>hc (UInt8.toNat_inj.1 e);simp;omega
       have g:Hid (quG s↔quG z):=by
        show _↔_;rw[k.out,b.out];simp[hc]
       clear h hc b k;go_wp2_with fail;go_roundw
       case rel=>exact⟨z,rfl,by omega,g,r⟩
       case measure=>simp[zJF];exact C
 ·obtain rfl:R=(s==[48]||s==[49]):=j.out;cases h0:(s==[48])
  all_goals
   go_wp2;go_ret;exact⟨by rw[h0];rfl,l.out⟩
 ·obtain rfl:R=(dd||s==[45]):=j.out;cases dd
  all_goals
   go_wp2;go_ret;exact⟨by simp,l.out⟩
open Tryz
open srch (decP vAg opAg zVe)
abbrev opB (o:OpV):Array Value:=#[.int .i64 o.id,.int .i64 o.cl,.string ⟨o.name.toArray⟩,.string ⟨o.key.toArray⟩,.int .i64 o.arg,.int .i64 o.exp,.int .i64 o.call,.int .i64 o.ret,.int .i64 o.vk,.int .i64 o.vn]
theorem zZN {W:World}{b:Nat}{o:OpV}(h:W.heap[b]?=some (.cells (opB o) 27 (0,0))):W.cell? ⟨b,0,none⟩=some (.int .i64 o.id)∧W.cell? ⟨b,1,none⟩=some (.int .i64 o.cl)∧W.cell? ⟨b,2,none⟩=some (.string ⟨o.name.toArray⟩)∧W.cell? ⟨b,3,none⟩=some (.string ⟨o.key.toArray⟩)∧W.cell? ⟨b,4,none⟩=some (.int .i64 o.arg)∧W.cell? ⟨b,5,none⟩=some (.int .i64 o.exp)∧W.cell? ⟨b,6,none⟩=some (.int .i64 o.call)∧W.cell? ⟨b,7,none⟩=some (.int .i64 o.ret)∧W.cell? ⟨b,8,none⟩=some (.int .i64 o.vk)∧W.cell? ⟨b,9,none⟩=some (.int .i64 o.vn):=
 ⟨zBk h 0,zBk h 1,zBk h 2,zBk h 3,zBk h 4,zBk h 5,zBk h 6,zBk h 7,zBk h 8,zBk h 9⟩
theorem zWr {W:World}{b:Nat}{x y:Value}(h:W.heap[b]?=some (.cells #[x,y] 25 (0,0))):W.cell? ⟨b,0,none⟩=some x∧W.cell? ⟨b,1,none⟩=some y∧W.frozen? ⟨b,0,none⟩=false∧W.frozen? ⟨b,1,none⟩=false:=
 ⟨zBk h 0,zBk h 1,zBn h 0,zBn h 1⟩
theorem below2 {B b:Nat}{w W:World}(h:Below B w W)(a:B≤b)(x y:Value):Below B w ((W.setCell ⟨b,0,none⟩ x).setCell ⟨b,1,none⟩ y):=(h.setCell (p:=⟨b,0,none⟩) a x).setCell (p:=⟨b,1,none⟩) a y
theorem zwZ {F:Func}(i:F.results=Tryz.f17.results)(a:Array Value)(W:World)(b:Nat)(s d e t:Value)(h:a[6]?.getD undef=s)(j:a[7]?.getD undef=.pointer (some ⟨b,0,none⟩))(k:a[8]?.getD undef=t)(g:W.heap[b]?=some (.cells #[d,e] 25 (0,0))):
 (results F a).run prog W=.ok (.tuple #[s,.agg #[d,e],t]) W:=by
 have c0:W.cell? ⟨b,0,none⟩=some d:=by rw[zBk g];rfl
 have c1:W.cell? ⟨b,1,none⟩=some e:=by rw[zBk g];rfl
 simp[results,i,results17,go_sem,h,j,k,c0,c1]
theorem zIq (w:World)(o:OpV):∃W0,W0=(w.alloc (.cells (opB o) 27)).alloc (.cells #[.int .i64 0,.int .i64 0] 25)∧Below w.heap.size w W0∧W0.heap[w.heap.size]?=some (.cells (opB o) 27 (0,0))∧W0.heap[w.heap.size+1]?=some (.cells #[.int .i64 0,.int .i64 0] 25 (0,0)):=
 ⟨_,rfl,(zA _ _).alloc (by simp) _,by rw[zD1 _ _ _ (by simp)];exact ziF _ _ _ rfl,ziF _ _ _ (by simp)⟩
theorem zvZ (m s:List UInt8)(o:OpV)(w:World)(z:Mods w)(aa:10≤w.heap.size)(hm:m.length≤8000000)(hs:s.length≤8000000)(hn:o.name.length≤8000000)(S:wf64 o.arg)(he:wf64 o.exp)(hc:wf64 o.cl):
 Calls prog 17 #[.string ⟨m.toArray⟩,.string ⟨s.toArray⟩,opAg o] w fun e w'=>e=.returned (.tuple #[.string ⟨(znR m s o).1.toArray⟩,vAg (znR m s o).2.1 (znR m s o).2.2.1,.int .i64 (znR m s o).2.2.2])∧Below w.heap.size w w':=by
 obtain⟨Y,M,b,q,i⟩:=zIq w o;have ag:=b.size;have hK:=zJJ ⟨m.toArray⟩ Y (z.below (b.mono aa)) (by omega);rw[show(⟨m.toArray⟩:ByteArray).toList=m from by rw[ByteArray.toList_eq],zrg]at hK;obtain⟨a0,U,a2,a3,a4,V,a6,a7,a8,X⟩:=zZN q;obtain⟨F,I,A,G⟩:=zWr i;obtain⟨R,hR⟩:∃R,Hid (znR m s o=R):=⟨_,rfl⟩;rw[hR.out];have h:=fun W=>zPG W;unfold vAg opAg at*;go_enter func17,ntmps17;go_wp2_with fail;rw[←M];clear M;have B:=zBq i;cases hk:zOI m opTab with
 |false=>
   rw[hk]at hK;obtain rfl:R=([],0,0,1):=(by rw[←hR.out];exact if_pos hk);clear hk hR;refine hK.mono ?_;rintro e Z ⟨rfl,rfl⟩;clear hK;go_wp2_with fail;refine(h _).mono ?_;rintro e w2 ⟨rfl,d⟩;have g:=(d.block _ B).trans i;obtain⟨F,I,A,G⟩:=zWr g;go_wp2_with fail;refine bodyPost_ret (zwZ rfl _ _ (w.heap.size+1) (.string ⟨#[]⟩) _ _ (.int .i64 1) rfl rfl rfl (srch.vset g _ _)) rfl ?_;exact⟨rfl,below2 (b.trans (d.mono b.size)) (Nat.le_succ _) _ _⟩
 |true=>
   have ae:=zVe hk;rw[hk]at hK;have a:=zf4 ⟨m.toArray⟩ ⟨o.name.toArray⟩ Y (by show m.toArray.size≤_;simp;omega) (by show o.name.toArray.size≤_;simp;omega);rw[show((⟨m.toArray⟩:ByteArray)++⟨#[32]⟩++⟨o.name.toArray⟩).toList=m++[32]++o.name from by rw[ByteArray.toList_eq];simp,zww hk]at a;unfold zu1 at a;have E:=zIR m s ae Y hs;have K:Hid (R=if zco m o.name opTab=none then([],0,0,2)else if zDs m s=false then([],0,0,3)else((ztI s o).1,(ztI s o).2.1,(ztI s o).2.2,0)):=by
    show _=_;rw[←hR.out];exact if_neg (by rw[hk];simp)
   clear hk hR;refine hK.mono ?_;rintro e Z ⟨rfl,rfl⟩;clear hK;cases hf:zco m o.name opTab with
   |none=>
     rw[hf]at a;dsimp only at a;obtain rfl:R=([],0,0,2):=K.out.trans (if_pos hf);clear K hf E;go_wp2_with fail;refine a.mono ?_;rintro e Z ⟨rfl,rfl⟩;clear a;go_wp2_with fail;refine(h _).mono ?_;rintro e w2 ⟨rfl,d⟩;have g:=(d.block _ B).trans i;obtain⟨F,I,A,G⟩:=zWr g;go_wp2_with fail;refine bodyPost_ret (zwZ rfl _ _ (w.heap.size+1) (.string ⟨#[]⟩) _ _ (.int .i64 2) rfl rfl rfl (srch.vset g _ _)) rfl ?_;exact⟨rfl,below2 (b.trans (d.mono b.size)) (Nat.le_succ _) _ _⟩
   |some r=>
     rw[hf]at a;dsimp only at a;have l:Hid (R=if zDs m s=false then([],0,0,3)else((ztI s o).1,(ztI s o).2.1,(ztI s o).2.2,0)):=K.out.trans (if_neg (by rw[hf];simp));have P:names o.name:=(zyI hf S he hc).nm.names;clear K hf;generalize ndS r.2.2.1=x1 at*;generalize gvS r.2.2.2=x2 at*;go_wp2_with fail;refine a.mono ?_;rintro e Z ⟨rfl,rfl⟩;clear a;go_wp2_with fail;refine E.mono ?_;rintro e w3 ⟨rfl,n⟩;have p:=(n.block _ B).trans i;have L:=(n.block _ (zBq q)).trans q;have v:=zBq p;have j:=b.trans (n.mono b.size);clear E a0 U a2 a3 a4 V a6 a7 a8 X F I A G;cases hg:zDs m s with
     |false=>
       obtain rfl:R=([],0,0,3):=l.out.trans (if_pos hg);clear l hg;go_wp2_with fail;refine(h _).mono ?_;rintro e w2 ⟨rfl,d⟩;have g:=(d.block _ v).trans p;obtain⟨F,I,A,G⟩:=zWr g;go_wp2_with fail;refine bodyPost_ret (zwZ rfl _ _ (w.heap.size+1) (.string ⟨#[]⟩) _ _ (.int .i64 3) rfl rfl rfl (srch.vset g _ _)) rfl ?_;exact⟨rfl,below2 (j.trans (d.mono j.size)) (Nat.le_succ _) _ _⟩
     |true=>
       obtain rfl:R=((ztI s o).1,(ztI s o).2.1,(ztI s o).2.2,0):=l.out.trans (if_neg (by rw[hg];simp));have C:=zCs m s o w3 hs P S he hc;unfold vAg opAg at C;obtain⟨⟨D1,D2,D3⟩,N⟩:∃D,Hid (ztI s o=D):=⟨_,rfl⟩;rw[N.out]at C;dsimp only at C;clear l hg h hm hn S he hc P z;obtain⟨a0,U,a2,a3,a4,V,a6,a7,a8,X⟩:=zZN L;go_wp2_with fail;refine C.mono ?_;rintro e t ⟨rfl,J⟩;have k:=(J.block _ v).trans p;have H:Hid (Below w.heap.size w t):=j.trans (J.mono j.size);have ad:Hid _:=k;clear C a0 U a2 a3 a4 V a6 a7 a8 X J n j L q i p;go_wp2_with fail;obtain⟨u,Q,x,O⟩:∃u,u=t.alloc (.cells #[.int .i64 D2,.int .i64 D3] 25)∧Below t.heap.size t u∧u.heap[t.heap.size]?=some (.cells #[.int .i64 D2,.int .i64 D3] 25 (0,0)):=⟨_,rfl,zA _ _,ziF _ _ _ rfl⟩;rw[←Q];have y:=(x.block _ (zBq k)).trans k;have af:Hid (Below w.heap.size w u):=H.out.trans (x.mono H.out.size);obtain⟨F,I,A,G⟩:=zWr y;obtain⟨u0,u1,y0,y1⟩:=zWr O;have ab:Hid _:=y;have ah:t.heap.size≠w.heap.size+1:=(by have:=zBq k;omega);clear Q x O H ad y k;go_region
       all_goals
        go_wp2_with fail;refine bodyPost_ret (zwZ rfl _ _ (w.heap.size+1) (.string ⟨D1.toArray⟩) _ _ (.int .i64 0) rfl rfl rfl (srch.vset (W:=u.drew) ab.out _ _)) rfl ?_;exact⟨by rw[N.out],below2 af.out.drew (Nat.le_succ _) _ _⟩
end Go.Proofs.YtoeoinpaidhmcaaGreatDoor.jd
