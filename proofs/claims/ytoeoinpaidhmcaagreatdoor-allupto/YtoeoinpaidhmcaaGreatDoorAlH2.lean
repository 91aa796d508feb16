/- One text. -/
import Derived.Test.YtoeoinpaidhmcaaGreatDoorAlH
set_option maxHeartbeats 8000000
set_option maxRecDepth 100000
namespace Go.Proofs.YtoeoinpaidhmcaaGreatDoor.jd
open Tryz
open Go.RowKit
open srch (vAg opAg OAt z2a zUq zOu)
def mkO (n:Nat):OpV:=⟨-1000-(n:Int),0,[109,97,114,107],[],0,0,0,0,0,0⟩
theorem set_app {A X:List Value}{n:Nat}(h:A.length=n)(i:Nat)(v:Value):(A++X).set (n+i) v=A++X.set i v:=by
 subst h;rw[List.set_append_right _ _ (by omega),Nat.add_sub_cancel_left]
theorem zf6H (L:List OpV)(k:Nat)(d:k<L.length)(o:OpV):((((((((((opsRow L).set (k*10) (.int .i64 o.id)).set (k*10+1) (.int .i64 o.cl)).set (k*10+2) (.string ⟨o.name.toArray⟩)).set (k*10+3) (.string ⟨o.key.toArray⟩)).set (k*10+4) (.int .i64 o.arg)).set (k*10+5) (.int .i64 o.exp)).set (k*10+6) (.int .i64 o.call)).set (k*10+7) (.int .i64 o.ret)).set (k*10+8) (.int .i64 o.vk)).set (k*10+9) (.int .i64 o.vn)=opsRow (L.take k++o::L.drop (k+1)):=by
 have a:(opsRow (L.take k)).length=k*10:=by rw[srch.opsRow_len,List.length_take];omega
 have g:opsRow L=opsRow (L.take k)++(opvCells L[k]++opsRow (L.drop (k+1))):=by
  have e:L=L.take k++L[k]::L.drop (k+1):=by rw[List.getElem_cons_drop d,List.take_append_drop]
  have h:opsRow (L.take k++L[k]::L.drop (k+1))=opsRow (L.take k)++(opvCells L[k]++opsRow (L.drop (k+1))):=by unfold opsRow;rw[List.flatMap_append,List.flatMap_cons]
  rw[←h,←e]
 have b:opsRow (L.take k++o::L.drop (k+1))=opsRow (L.take k)++(opvCells o++opsRow (L.drop (k+1))):=by unfold opsRow;rw[List.flatMap_append,List.flatMap_cons]
 rw[g,b,show(opsRow (L.take k)++(opvCells L[k]++opsRow (L.drop (k+1)))).set (k*10) (.int .i64 o.id)=_ from set_app a 0 _,set_app a 1,set_app a 2,set_app a 3,set_app a 4,set_app a 5,set_app a 6,set_app a 7,set_app a 8,set_app a 9];rfl
theorem zTE {w:World}{a g b N:Nat}{L:List OpV}(i:L.length=N)(h:w.ownsRow a 27 10 (.slice (some ⟨g,0,none⟩) N b) N (opsRow L))(k:Nat)(d:k<N)(o:OpV):
 ((((((((((w.setCell ⟨g,k*10,none⟩ (.int .i64 o.id)).setCell ⟨g,k*10+1,none⟩ (.int .i64 o.cl)).setCell ⟨g,k*10+2,none⟩ (.string ⟨o.name.toArray⟩)).setCell ⟨g,k*10+3,none⟩ (.string ⟨o.key.toArray⟩)).setCell ⟨g,k*10+4,none⟩ (.int .i64 o.arg)).setCell ⟨g,k*10+5,none⟩ (.int .i64 o.exp)).setCell ⟨g,k*10+6,none⟩ (.int .i64 o.call)).setCell ⟨g,k*10+7,none⟩ (.int .i64 o.ret)).setCell ⟨g,k*10+8,none⟩ (.int .i64 o.vk)).setCell ⟨g,k*10+9,none⟩ (.int .i64 o.vn)).ownsRow a 27 10 (.slice (some ⟨g,0,none⟩) N b) N (opsRow (L.take k++o::L.drop (k+1))):=by
 subst i;have e:=srch.opsRow_len L;rw[←zf6H L k d o];refine zUj (zUj (zUj (zUj (zUj (zUj (zUj (zUj (zUj (zUj h _ _ ?_) _ _ ?_) _ _ ?_) _ _ ?_) _ _ ?_) _ _ ?_) _ _ ?_) _ _ ?_) _ _ ?_) _ _ ?_<;>simp only [List.length_set,e]<;>omega
theorem zEe (W:World)(b:Nat)(a:Option Addr)(n c:Nat)(m:List Value)(s:OpV)(h:W.ownsRow b 27 10 (.slice a n c) n m)(G:n≤3000000)(H:b≤W.heap.size):
 ∃a' c' w',(Builtin.append_ #[30,30] 30 #[.slice a n c,.slice (some ⟨W.heap.size,0,none⟩) 1 1]).run prog (W.alloc (.cells (opB s) 27))=.ok (.slice a' (n+1) c') w'∧w'.ownsRow b 27 10 (.slice a' (n+1) c') (n+1) (m++opvCells s)∧Kept (Value.slice a n c).ownBlock.toList W w'∧((Value.slice a' (n+1) c').ownBlock=(Value.slice a n c).ownBlock∨∀k,k<W.heap.size→w'.heap[k]?=W.heap[k]?):=by
 obtain⟨a',c',w',o,E,v,F⟩:=z2a W b a n c m s h G H;refine⟨a',c',w',(by unfold opvCells at o;exact o),E,v,?_⟩;rcases F with e|⟨g',e1,e2⟩
 ·exact Or.inl e
 ·refine Or.inr fun k hk=>?_;have r:=h.alloc (.cells (opvCells s).toArray 27);obtain⟨x,q,z,j,B⟩:=info_parts zSl;rcases r.2 with ⟨l,Q⟩|⟨g,K,C,l,N,y,M,J,A,D⟩
  ·rw[l]at v;exact v.block k hk (by simp[Value.ownBlock])
  ·injection l with l _ q3;subst l q3;have p:=z9R W 27 (opvCells s);by_cases hroom:n+1≤c
   ·have t:=run_append_room (P:=prog) (W.alloc (.cells (opvCells s).toArray 27)) 30 30 27 x underlying30 q g n c C y ⟨W.heap.size,0,none⟩ 1 1 (opvCells s) (by rw[j];rfl) p (fun u hu=>List.all_eq_true.1 (show(opvCells s).all Value.oneCell'=true from rfl) u hu) hroom (by rw[A];show n*x.size+10≤_;rw[j];omega);have i:=o.symm.trans t;injection i with i;rw[i]at e1;have L:=zBq y;have:g=g':=(by simpa [Value.ownBlock]using e1);rcases h.2 with ⟨d,_⟩|⟨O,_,_,d,_,I,_⟩
    ·cases d
    ·injection d with d;injection d with d;injection d with d;have:=zBq I;omega
   ·have t:=run_append_grow (P:=prog) (W.alloc (.cells (opvCells s).toArray 27)) 30 30 27 x _ underlying30 q z ⟨g,0,none⟩ n c m (by rw[j];exact r.1) (r.cells (g:=g) rfl) ⟨W.heap.size,0,none⟩ 1 1 (opvCells s) (by rw[j];rfl) p (by omega) (by omega) (growslice_fits (by omega) (by rw[B];omega));have i:=o.symm.trans t;injection i with _ i;rw[i];exact(Below.heap_alloc _ _ k (by show k<(W.alloc _).heap.size;simp;omega)).trans (Below.heap_alloc _ _ _ hk)
abbrev hB (o:OpV)(v m:Value):Obj:=.cells (#[v,m]++opB o) 51 (0,0)
theorem zlT {W:World}{b:Nat}{o:OpV}{v m:Value}(h:W.heap[b]?=some (hB o v m)):W.cell? ⟨b,2,none⟩=some (.int .i64 o.id)∧W.cell? ⟨b,3,none⟩=some (.int .i64 o.cl)∧W.cell? ⟨b,4,none⟩=some (.string ⟨o.name.toArray⟩)∧W.cell? ⟨b,5,none⟩=some (.string ⟨o.key.toArray⟩)∧W.cell? ⟨b,6,none⟩=some (.int .i64 o.arg)∧W.cell? ⟨b,7,none⟩=some (.int .i64 o.exp)∧W.cell? ⟨b,8,none⟩=some (.int .i64 o.call)∧W.cell? ⟨b,9,none⟩=some (.int .i64 o.ret)∧W.cell? ⟨b,10,none⟩=some (.int .i64 o.vk)∧W.cell? ⟨b,11,none⟩=some (.int .i64 o.vn):=
 ⟨zBk h 2,zBk h 3,zBk h 4,zBk h 5,zBk h 6,zBk h 7,zBk h 8,zBk h 9,zBk h 10,zBk h 11⟩
theorem zGE {W:World}{b g j:Nat}(h:b≠g)(k m a e n i p o l d:Value):((((((((((W.setCell ⟨g,j,none⟩ k).setCell ⟨g,j+1,none⟩ m).setCell ⟨g,j+2,none⟩ a).setCell ⟨g,j+3,none⟩ e).setCell ⟨g,j+4,none⟩ n).setCell ⟨g,j+5,none⟩ i).setCell ⟨g,j+6,none⟩ p).setCell ⟨g,j+7,none⟩ o).setCell ⟨g,j+8,none⟩ l).setCell ⟨g,j+9,none⟩ d).heap[b]?=W.heap[b]?:=by
 rw[zRA h,zRA h,zRA h,zRA h,zRA h,zRA h,zRA h,zRA h,zRA h,zRA h]
theorem zbZ {B g j:Nat}{w W:World}(h:Below B w W)(a:B≤g)(l n d i o k q b m e:Value):Below B w ((((((((((W.setCell ⟨g,j,none⟩ l).setCell ⟨g,j+1,none⟩ n).setCell ⟨g,j+2,none⟩ d).setCell ⟨g,j+3,none⟩ i).setCell ⟨g,j+4,none⟩ o).setCell ⟨g,j+5,none⟩ k).setCell ⟨g,j+6,none⟩ q).setCell ⟨g,j+7,none⟩ b).setCell ⟨g,j+8,none⟩ m).setCell ⟨g,j+9,none⟩ e):=
 (((((((((h.setCell (p:=⟨g,_,none⟩) a l).setCell (p:=⟨g,_,none⟩) a n).setCell (p:=⟨g,_,none⟩) a d).setCell (p:=⟨g,_,none⟩) a i).setCell (p:=⟨g,_,none⟩) a o).setCell (p:=⟨g,_,none⟩) a k).setCell (p:=⟨g,_,none⟩) a q).setCell (p:=⟨g,_,none⟩) a b).setCell (p:=⟨g,_,none⟩) a m).setCell (p:=⟨g,_,none⟩) a e
theorem VAt.up {n m:Nat}{W:World}{o:OpV}{v:Value}(h:VAt n W o v)(k:n≤m):VAt m W o v:=by
 obtain⟨x,y,z,p,q,r⟩:=h;exact⟨x,y,z,p,by omega,r⟩
theorem VAt.of {W:World}{a n:Nat}{o:OpV}{v:Value}(h:W.ownsRow a 27 10 v n (opsRow (List.replicate n o))):VAt n W o v:=by
 obtain⟨_,⟨rfl,rfl⟩|⟨g,b,d,rfl,_,e,_,_,_,i⟩⟩:=h
 ·exact⟨none,0,0,rfl,Nat.le_refl _,Or.inl rfl⟩
 ·exact⟨_,n,b,rfl,Nat.le_refl _,Or.inr ⟨g,d,rfl,e,i⟩⟩
theorem VAt.app {W w':World}{l n c c':Nat}{o:OpV}{a a':Option Addr}{v:Value}(h:VAt n W o v)(z:w'.ownsRow l 27 10 (.slice a' (n+1) c') (n+1) (opsRow (List.replicate (n+1) o)))(D:Kept (Value.slice a n c).ownBlock.toList W w')(y:(Value.slice a' (n+1) c').ownBlock=(Value.slice a n c).ownBlock∨∀k,k<W.heap.size→w'.heap[k]?=W.heap[k]?):VAt (n+1) w' o v:=by
 obtain⟨b,m,d,rfl,H,A|⟨g,i,rfl,q,x⟩⟩:=h
 ·exact⟨b,m,d,rfl,by omega,Or.inl A⟩
 ·have j:=zBq q;rcases y with e|e
  ·by_cases hg:(Value.slice a n c).ownBlock=some g
   ·rw[hg]at e;obtain⟨_,⟨r,_⟩|⟨u,G,p,r,_,F,_,_,_,C⟩⟩:=z
    ·rw[r]at e;cases e
    ·rw[r]at e;have E:u=g:=(by simpa [Value.ownBlock]using e);subst E;refine⟨_,m,d,rfl,by omega,Or.inr ⟨u,p,rfl,F,?_⟩⟩;have s:m*10≤(n+1)*10:=Nat.mul_le_mul_right _ (by omega);have t:=congrArg (List.take (m*10)) C;rw[List.take_take,Nat.min_eq_left s]at t;rw[t];have B:List.replicate (n+1) o=List.replicate m o++List.replicate (n+1-m) o:=(by rw[List.replicate_append_replicate];congr 1;omega);rw[B];unfold opsRow;rw[List.flatMap_append];exact List.take_left' (by have:=srch.opsRow_len (List.replicate m o);unfold opsRow at this;rw[this];simp)
   ·exact⟨_,m,d,rfl,by omega,Or.inr ⟨g,i,rfl,(D.block g j (fun s=>hg (by simpa using s))).trans q,x⟩⟩
  ·exact⟨_,m,d,rfl,by omega,Or.inr ⟨g,i,rfl,(e g j).trans q,x⟩⟩
theorem zC2 {W W':World}{i:Nat}{e:TypeId}{j:Nat}{v:Value}{n:Nat}{l:List Value}(h:W.ownsRow i e j v n l)(q:Kept v.ownBlock.toList W W'){g:Nat}{d:Array Value}{t:TypeId}(a:W.heap[g]?=some (.cells d t (0,0)))(p:t≠e):W'.heap[g]?=some (.cells d t (0,0)):=by
 refine(q.block g (zBq a) (fun hm=>?_)).trans a;have b:v.ownBlock=some g:=by simpa using hm
 obtain⟨_,⟨rfl,_⟩|⟨o,_,m,rfl,_,k,_⟩⟩:=h
 ·cases b
 ·have:o=g:=by simpa [Value.ownBlock]using b
  subst this;rw[k]at a;injection a with a;injection a with _ a;exact p a.symm
theorem slInfo:(prog.info? 30).map (fun i=>(i.zero,i.size,i.bytes))=some (some (.slice none 0 0),1,24):=by kernel_rfl
theorem zNc {W W':World}{d:Nat}{e:TypeId}{b:Nat}{v:Value}{n:Nat}{l:List Value}(h:W.ownsRow d e b v n l)(k:∀(g:Nat) (a:Array Value),W.heap[g]?=some (.cells a e (0,0))→W'.heap[g]?=some (.cells a e (0,0))):W'.ownsRow d e b v n l:=by
 obtain⟨j,i|⟨g,m,a,i,p,q,o⟩⟩:=h
 ·exact⟨j,Or.inl i⟩
 ·exact⟨j,Or.inr ⟨g,m,a,i,p,k g a q,o⟩⟩
theorem zQ1 (v:Value)(m:List OpV)(n d:Nat)(w:World)(h:w.ownsRow d 27 10 v m.length (opsRow m))(hl:m.length≤900)(hn:n≤2000000)(hb:d≤w.heap.size):
 Calls prog 7 #[v,.int .i64 (n:Int)] w fun e w'=>e=.returned (.pointer (some ⟨w.heap.size,0,none⟩))∧HeldAt w' w.heap.size (mkO n)∧Below d w w':=by
 obtain⟨a,c,rfl⟩:=zIW h;have hw:IntKind.i64.wrap (-1000-(n:Int))= -1000-(n:Int):=by rw[IntKind.wrap_i64];omega
 obtain⟨o,ho⟩:∃o,Hid (o=mkO n):=⟨_,rfl⟩;obtain⟨W,Q,ab,R,S⟩:∃W,W=w.alloc (.cells #[.slice a m.length c,.slice none 0 0,.int .i64 (-1000-(n:Int)),.int .i64 0,.string ⟨#[109,97,114,107]⟩,.string ⟨#[]⟩,.int .i64 0,.int .i64 0,.int .i64 0,.int .i64 0,.int .i64 0,.int .i64 0] 51)∧Below w.heap.size w W∧W.heap[w.heap.size]?=some (hB o (.slice a m.length c) (.slice none 0 0))∧W.ownsRow d 27 10 (.slice a m.length c) m.length (opsRow m):=⟨_,rfl,zA _ _,by rw[ho.out];exact ziF _ _ _ rfl,h.alloc _⟩;have Z:Hid (∀g,(Value.slice a m.length c).ownBlock=some g→d≤g∧g<w.heap.size):=fun g b=>h.lt g b;obtain⟨N,hN⟩:∃N,m.length=N:=⟨_,rfl⟩;rw[←ho.out];rw[hN]at S Q R hl Z⊢;clear h ho;go_enter func7,ntmps7;go_wp2_with fail;rw[←Q];clear Q hw;go_loopw [6] (fun i wr=>∃k:Nat,i=.int .i64 (k:Int)∧k≤N∧Hid (wr.ownsRow d 27 10 (.slice a N c) N (opsRow (List.replicate k o++m.drop k)))∧Hid (wr.heap[w.heap.size]?=some (hB o (.slice a N c) (.slice none 0 0)))∧Hid (Below d w wr)) (fun i _=>N-(intOf i).toNat)
 case atStart=>exact⟨0,rfl,by omega,S,R,ab.mono hb⟩
 case round=>
  obtain⟨k,rfl,hk,y,r,s⟩:=hrel;clear S R ab;by_cases hin:k<N
  ·have J:(k:Int)<(N:Int):=(by omega);obtain⟨_,⟨e,e0⟩|⟨g,ar,q,e,az,b,aA,ax,Y,aa⟩⟩:=y.out
   ·omega
   ·injection e with e1 _ e3;subst e1 e3;obtain⟨m0,m1,m2,m3,m4,m5,m6,m7,m8,m9⟩:=zlT r.out;have t:∀j,j<10→∃u,wr.cell? ⟨g,k*10+j,none⟩=some u:=fun j hj=>⟨_,(zBk b (k*10+j)).trans (Array.getElem?_eq_getElem (by rw[Y];omega))⟩;obtain⟨u0,q0⟩:=t 0 (by omega);obtain⟨u1,q1⟩:=t 1 (by omega);obtain⟨u2,q2⟩:=t 2 (by omega);obtain⟨u3,q3⟩:=t 3 (by omega);obtain⟨u4,q4⟩:=t 4 (by omega);obtain⟨u5,q5⟩:=t 5 (by omega);obtain⟨u6,q6⟩:=t 6 (by omega);obtain⟨u7,q7⟩:=t 7 (by omega);obtain⟨u8,q8⟩:=t 8 (by omega);obtain⟨u9,q9⟩:=t 9 (by omega);rw[Nat.add_zero]at q0;have f0:=zBn b (k*10);have f1:=zBn b (k*10+1);have f2:=zBn b (k*10+2);have f3:=zBn b (k*10+3);have f4:=zBn b (k*10+4);have f5:=zBn b (k*10+5);have f6:=zBn b (k*10+6);have f7:=zBn b (k*10+7);have f8:=zBn b (k*10+8);have f9:=zBn b (k*10+9);have ae:Hid (d≤g∧g<w.heap.size):=Z.out g rfl;clear t b Y aa ax;go_wp2;go_roundw
    case rel=>
     have ao:w.heap.size≠g:=(by have:=ae.out;omega);have aq:(List.replicate k o++m.drop k).length=N:=(by simp;omega);have I:=zTE aq y.out k hin o;have au:(List.replicate k o++m.drop k).take k++o::(List.replicate k o++m.drop k).drop (k+1)=List.replicate (k+1) o++m.drop (k+1):=by
      rw[List.take_left' (by simp),List.drop_append,List.drop_eq_nil_of_le (by simp),List.nil_append,List.length_replicate,Nat.add_sub_cancel_left,List.drop_drop,List.replicate_succ',List.append_assoc];rfl
     rw[au]at I;exact⟨k+1,by go_num,by omega,I,(zGE ao _ _ _ _ _ _ _ _ _ _).trans r.out,zbZ s.out ae.out.1 _ _ _ _ _ _ _ _ _ _⟩
    case measure=>simp[intOf];omega
  ·have J:¬(k:Int)<(N:Int):=(by omega);obtain rfl:N=k:=(by omega);have aj:wr.ownsRow d 27 10 (.slice a N c) (N+0) (opsRow (List.replicate (N+0) o)):=by
    have I:=y.out;rw[List.drop_eq_nil_of_le (by omega),List.append_nil]at I;exact I
   have U:Hid _:=aj;clear y aj Z;go_wp2_with fail;go_loopw [0,7] (fun l i wr=>∃(k:Nat) (a':Option Addr) (c':Nat) (H:Option Addr) (B:Nat) (L:List Value),l=.slice a' (N+k) c'∧i=.int .i64 (k:Int)∧k≤16∧Hid (wr.ownsRow d 27 10 (.slice a' (N+k) c') (N+k) (opsRow (List.replicate (N+k) o)))∧Hid (wr.heap[w.heap.size]?=some (hB o (.slice a N c) (.slice H k B)))∧Hid (wr.ownsRow (w.heap.size+1) 30 1 (.slice H k B) k L)∧Hid (∀u∈L,VAt (N+k) wr o u)∧Hid (VAt (N+k) wr o (.slice a N c))∧Hid (Below d w wr)) (fun _ i _=>16-(intOf i).toNat)
   case atStart=>exact⟨0,a,c,none,0,[],rfl,rfl,by omega,U,r,World.ownsRow_nil _ _ _ _,(fun u hu=>by cases hu),VAt.of U.out,s⟩
   case round=>
    clear U r s;obtain⟨k,a',c',H,B,L,rfl,rfl,hk,y,r,hM,hV,hv,s⟩:=hrel;by_cases hin:k<16
    ·have J:(k:Int)<16:=(by omega);have ay:=s.out.size;obtain⟨X,V,C,ag,O,M,h5⟩:=zEe wr d a' (N+k) c' _ o y.out (by omega) (by omega);have P:opsRow (List.replicate (N+k) o)++opvCells o=opsRow (List.replicate (N+k+1) o):=by
      rw[List.replicate_succ'];unfold opsRow;rw[List.flatMap_append];simp
     rw[P]at O;have G:C.heap[w.heap.size]?=some (hB o (.slice a N c) (.slice H k B)):=zC2 y.out M r.out (by decide);have F:C.ownsRow (w.heap.size+1) 30 1 (.slice H k B) k L:=zNc hM.out (fun g q b=>zC2 y.out M b (by decide));have ak:w.heap.size+1≤C.heap.size:=(by have:=zBq G;omega);obtain⟨a3,c3,z,A,ad,K,_⟩:=zUq slInfo underlying49 rfl (by decide) (by decide) (cells:=[Value.slice X (N+k+1) V]) rfl rfl F (by omega) ak;have D:z.heap[w.heap.size]?=some (hB o (.slice a N c) (.slice H k B)):=zC2 F K G (by decide);have E:∀(g:Nat) (q:Array Value) (x:Value),C.heap[g]?=some (.cells q 27 (0,0))→(z.setCell ⟨w.heap.size,1,none⟩ x).heap[g]?=C.heap[g]?:=fun g q x b=>by
      have I:=zC2 F K b (by decide);rw[zRA (by show g≠w.heap.size;rintro rfl;rw[G]at b;injection b with b;injection b with _ b;exact absurd b (by decide)),I,b]
     have af:Below d wr C:=M.below (by omega) (fun g b=>zYv y.out g (by simpa using b));have ah:Below (w.heap.size+1) C z:=K.below ak (fun g b=>zYv F g (by simpa using b));have av:Hid (∀x,x=Value.slice a3 (k+1) c3→Hid ((z.setCell ⟨w.heap.size,1,none⟩ x).ownsRow d 27 10 (.slice X (N+(k+1)) V) (N+(k+1)) (opsRow (List.replicate (N+(k+1)) o)))∧Hid ((z.setCell ⟨w.heap.size,1,none⟩ x).heap[w.heap.size]?=some (hB o (.slice a N c) (.slice a3 (k+1) c3)))∧Hid ((z.setCell ⟨w.heap.size,1,none⟩ x).ownsRow (w.heap.size+1) 30 1 (.slice a3 (k+1) c3) (k+1) (L++[.slice X (N+k+1) V]))∧Hid (∀u∈L++[.slice X (N+k+1) V],VAt (N+(k+1)) (z.setCell ⟨w.heap.size,1,none⟩ x) o u)∧Hid (VAt (N+(k+1)) (z.setCell ⟨w.heap.size,1,none⟩ x) o (.slice a N c))∧Hid (Below d w (z.setCell ⟨w.heap.size,1,none⟩ x))):=by
      rintro x rfl;refine⟨zNc O (fun g q b=>(E g q _ b).trans b),?_,zNc ad (fun g q b=>?_),fun u hu=>?_,(hv.out.app O M h5).same (fun g q b=>E g q _ b),?_⟩
      ·show _=_;rw[zFg D 1 _];rfl
      ·rw[zRA (by show g≠w.heap.size;rintro rfl;rw[D]at b;injection b with b;injection b with _ b;exact absurd b (by decide))];exact b
      ·rcases List.mem_append.1 hu with hu|hu
       ·exact((hV.out u hu).app O M h5).same (fun g q b=>E g q _ b)
       ·rw[List.mem_singleton]at hu;subst hu;exact(VAt.of O).same (fun g q b=>E g q _ b)
      ·exact((s.out.trans af).trans (ah.mono (by omega))).setCell (p:=⟨w.heap.size,1,none⟩) hb _
     obtain⟨m0,m1,m2,m3,m4,m5,m6,m7,m8,m9⟩:=zlT r.out;have x1:C.cell? ⟨w.heap.size,1,none⟩=some (.slice H k B):=zBk G 1;have y1:z.cell? ⟨w.heap.size,1,none⟩=some (.slice H k B):=zBk D 1;have y2:=zBn D 1;have al:Hid _:=A;clear O M h5 P G F A ad K D E af ah y r hM hV hv;go_upto_region 10 with (at_builtin;refine zOu rfl _ _ 30 rfl _ _ _ _ rfl rfl ag ?_);have A:=al.out;clear ag m0 m1 m2 m3 m4 m5 m6 m7 m8 m9;go_wp2_with (at_builtin;refine zOu rfl _ _ 49 rfl _ _ _ _ rfl rfl A ?_);go_roundw
     case rel=>exact⟨k+1,X,V,a3,c3,_,rfl,by go_num,by omega,av.out _ rfl⟩
     case measure=>simp[intOf];omega
    ·have J:¬(k:Int)<16:=(by omega);obtain rfl:k=16:=(by omega);go_wp2_with fail;go_ret;refine⟨rfl,?_,s.out⟩;obtain⟨am,⟨_,h0⟩|⟨gm,ar,cm,e,_,aw,_,_,Y,an⟩⟩:=hM.out
     ·cases h0
     ·injection e with e1 _ e3;subst e1 e3;refine⟨_,gm,B,cm,r.out,hv.out.up (by omega),aw,fun j hj=>?_⟩;have ai:j<L.length:=(by rw[am];omega);refine⟨L[j],?_,(hV.out _ (List.getElem_mem ai)).up (by omega)⟩;rw[←Array.getElem?_toList,←List.getElem?_take_of_lt (j:=16*1) hj,an];exact zC ai
end Go.Proofs.YtoeoinpaidhmcaaGreatDoor.jd
