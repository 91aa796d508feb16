/- One text. -/
import Derived.Test.YtoeoinpaidhmcaaGreatDoorAlE
set_option maxHeartbeats 4000000
set_option maxRecDepth 100000
namespace Go.Proofs.YtoeoinpaidhmcaaGreatDoor.jd
open Tryz
open Go.RowKit
open srch (vAg opAg OAt)
def VAt (N:Nat)(W:World)(o:OpV)(v:Value):Prop:=∃a n c,v=.slice a n c∧n≤N∧(n=0∨∃g cur,a=some ⟨g,0,none⟩∧W.heap[g]?=some (.cells cur 27 (0,0))∧cur.toList.take (n*10)=opsRow (List.replicate n o))
theorem VAt.same {N:Nat}{W W':World}{o:OpV}{v:Value}(h:VAt N W o v)(k:∀(g:Nat) (b:Array Value),W.heap[g]?=some (.cells b 27 (0,0))→W'.heap[g]?=W.heap[g]?):VAt N W' o v:=by
 obtain⟨a,n,c,e,i,d|⟨g,b,d,j,l⟩⟩:=h
 ·exact⟨a,n,c,e,i,Or.inl d⟩
 ·exact⟨a,n,c,e,i,Or.inr ⟨g,b,d,(k g b j).trans j,l⟩⟩
theorem VAt.below {N:Nat}{W W':World}{o:OpV}{v:Value}(h:VAt N W o v)(k:Below W.heap.size W W'):VAt N W' o v:=h.same (fun g _ h4=>k.block g (zBq h4))
theorem VAt.oat {N:Nat}{W:World}{o:OpV}{a:Option Addr}{n c:Nat}(h:VAt N W o (.slice a n c)):OAt W a (List.replicate n o):=by
 intro b;obtain⟨a',k,c',d,_,i⟩:=h;injection d with e1 e2 e3;subst e1 e2 e3;rcases i with rfl|⟨g,cur,rfl,h4,h5⟩
 ·exact absurd rfl b
 ·refine⟨g,rfl,zBq h4,fun j u hj=>?_⟩;have e:j<n*10:=by have:=(zB hj).1;rw[srch.opsRow_len,List.length_replicate]at this;exact this
  rw[zBk h4,←Array.getElem?_toList];rw[←h5,List.getElem?_take_of_lt e]at hj;exact hj
def HeldAt (W:World)(b:Nat)(o:OpV):Prop:=∃v gm cp cm,W.heap[b]?=some (.cells (#[v,.slice (some ⟨gm,0,none⟩) 16 cp]++opB o) 51 (0,0))∧VAt 2000 W o v∧W.heap[gm]?=some (.cells cm 30 (0,0))∧∀j,j<16→∃u,cm[j]?=some u∧VAt 2000 W o u
theorem HeldAt.below {W W':World}{b:Nat}{o:OpV}(h:HeldAt W b o)(k:Below W.heap.size W W'):HeldAt W' b o:=by
 obtain⟨v,m,l,g,a,e,d,i⟩:=h;exact⟨v,m,l,g,(k.block _ (zBq a)).trans a,e.below k,(k.block _ (zBq d)).trans d,fun j hj=>(i j hj).imp (fun u hu=>⟨hu.1,hu.2.below k⟩)⟩
theorem zwS (o:OpV)(v:Value)(w:World)(h:VAt 2000 w o v):
 Calls prog 20 #[v,opAg o] w fun e w'=>Below w.heap.size w w'∧e=.returned (.bool true):=by
 obtain⟨a,n,c,rfl,W,_⟩:=id h;obtain⟨j,p,l,hB⟩:∃j,j=w.alloc (.cells (opB o) 27)∧Below w.heap.size w j∧j.heap[w.heap.size]?=some (.cells (opB o) 27 (0,0)):=⟨_,rfl,zA _ _,ziF _ _ _ rfl⟩;have B:=(h.below l).oat;clear h;unfold opAg;go_enter func20,ntmps20;go_wp2_with fail;rw[←p];clear p;go_loopw [5] (fun i wr=>∃(k:Nat),i=.int .i64 (k:Int)∧k≤n∧Below j.heap.size j wr) (fun i _=>n-(intOf i).toNat)
 case atStart=>exact⟨0,rfl,by omega,zD⟩
 case round=>
  obtain⟨k,rfl,Z,d⟩:=hrel;by_cases hin:k<n
  ·have r:(k:Int)<(n:Int):=(by omega);have m:k<(List.replicate n o).length:=(by simpa using hin);obtain⟨g,rfl,R,N⟩:=(B.below d) (by intro h;rw[h]at m;simp at m);have b:∀c u,c<10→(opvCells o)[c]?=some u→wr.cell? ⟨g,k*10+c,none⟩=some u:=fun c u hcc hu=>N _ _ ((zvc _ k m c hcc).trans (by rw[List.getElem_replicate];exact hu));have q:=b 0 _ (by omega) rfl;have C:=b 1 _ (by omega) rfl;have O:=b 2 _ (by omega) rfl;have J:=b 3 _ (by omega) rfl;have t:=b 4 _ (by omega) rfl;have H:=b 5 _ (by omega) rfl;have G:=b 6 _ (by omega) rfl;have M:=b 7 _ (by omega) rfl;have y:=b 8 _ (by omega) rfl;have K:=b 9 _ (by omega) rfl;obtain⟨z,A,D,L,F,s,x,P,E,I⟩:=zZN ((d.block _ (zBq hB)).trans hB);rw[Nat.add_zero]at q;clear b N B hB;obtain⟨o1,Y,S,X,U,o6,o7,V,o9,Q⟩:=o;simp only at q C O J t H G M y K z A D L F s x P E I;go_wp2;go_cut [17] (fun a wx=>a=.bool false∧wx=wr.drew)
   case first=>
    go_region
    all_goals
     go_wp2_with fail;go_meet;exact⟨rfl,rfl⟩
   case rest=>
    obtain⟨rfl,rfl⟩:=hcut;clear q C O J t H G M y K z A D L F s x P E I;go_wp2;go_roundw
    case rel=>exact⟨k+1,by go_num,by omega,d.drew⟩
    case measure=>simp[intOf];omega
  ·have r:¬(k:Int)<(n:Int):=(by omega);go_wp2;go_ret;exact⟨l.trans (d.mono l.size),rfl⟩
theorem zud (b:Nat)(o:OpV)(w:World)(h:HeldAt w b o):
 Calls prog 10 #[.pointer (some ⟨b,0,none⟩)] w fun e w'=>Below w.heap.size w w'∧e=.returned (.bool true):=by
 obtain⟨v,z,N,Y,hB,x,I,L⟩:=h;have d:∀W,Below w.heap.size w W→W.cell? ⟨b,0,none⟩=some v∧W.cell? ⟨b,1,none⟩=some (.slice (some ⟨z,0,none⟩) 16 N)∧W.cell? ⟨b,2,none⟩=some (.int .i64 o.id)∧W.cell? ⟨b,3,none⟩=some (.int .i64 o.cl)∧W.cell? ⟨b,4,none⟩=some (.string ⟨o.name.toArray⟩)∧W.cell? ⟨b,5,none⟩=some (.string ⟨o.key.toArray⟩)∧W.cell? ⟨b,6,none⟩=some (.int .i64 o.arg)∧W.cell? ⟨b,7,none⟩=some (.int .i64 o.exp)∧W.cell? ⟨b,8,none⟩=some (.int .i64 o.call)∧W.cell? ⟨b,9,none⟩=some (.int .i64 o.ret)∧W.cell? ⟨b,10,none⟩=some (.int .i64 o.vk)∧W.cell? ⟨b,11,none⟩=some (.int .i64 o.vn):=fun W hW=>by
  have h:=(hW.block _ (zBq hB)).trans hB;exact⟨zBk h 0,zBk h 1,zBk h 2,zBk h 3,zBk h 4,zBk h 5,zBk h 6,zBk h 7,zBk h 8,zBk h 9,zBk h 10,zBk h 11⟩
 have j:=fun u W (hW:Below w.heap.size w W) (hu:VAt 2000 w o u)=>zwS o u W (hu.below hW);have M:Hid _:=d;have P:Hid _:=j;have Q:Hid _:=x;have y:Hid _:=And.intro I L;obtain⟨c0,c1,H,K,E,F,B,J,C,G,q,s⟩:=d w (zD);have n:=j v w.drew (zD).drew x;unfold opAg at n;clear d j hB x I L;go_enter func10,ntmps10;go_wp2;go_cut [3] (fun a wx=>a=.bool true∧Below w.heap.size w wx)
 case first=>
  go_region_with (go_at_call 20;refine n.mono ?_;rintro e O ⟨l,rfl⟩)
  all_goals
   go_wp2_with fail;go_meet
   case rel=>exact⟨rfl,Below.trans (zD).drew l⟩
 case rest=>
  obtain⟨rfl,l⟩:=hcut;clear n c0 c1 H K E F B J C G q s;go_wp2;go_loopw [3,4] (fun ok i wr=>∃(k:Nat),ok=.bool true∧i=.int .i64 (k:Int)∧k≤16∧Below w.heap.size w wr) (fun _ i _=>16-(intOf i).toNat)
  case atStart=>exact⟨0,rfl,rfl,by omega,l⟩
  case round=>
   obtain⟨k,rfl,rfl,X,g⟩:=hrel;obtain⟨c0,c1,H,K,E,F,B,J,C,G,q,s⟩:=M.out wr g;by_cases hin:k<16
   ·have A:(k:Int)<16:=(by omega);obtain⟨u,t,m⟩:=y.out.2 k hin;have V:wr.cell? ⟨z,k,none⟩=some u:=(g.cell (p:=⟨z,k,none⟩) (zBq y.out.1)).trans ((zBk y.out.1 k).trans t);obtain⟨U,R,S,rfl,_⟩:=id m;have r:=P.out _ wr.drew g.drew m;unfold opAg at r;clear t m l Q;go_upto_region 5 with fail;go_region_with (go_at_call 20;refine r.mono ?_;rintro e O ⟨D,rfl⟩)
    all_goals
     go_wp2;go_roundw
     case rel=>exact⟨k+1,rfl,by go_num,by omega,g.trans ((Below.trans (zD).drew D).mono g.size)⟩
     case measure=>simp[intOf];omega
   ·have A:¬(k:Int)<16:=(by omega);go_wp2;go_ret;exact⟨g,rfl⟩
end Go.Proofs.YtoeoinpaidhmcaaGreatDoor.jd
