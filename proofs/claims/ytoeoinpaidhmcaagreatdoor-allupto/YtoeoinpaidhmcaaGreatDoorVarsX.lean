/- One text. -/
import Derived.ChangeArms
import Derived.LaidLaws
import Derived.OpenShut
namespace Go.Proofs.YtoeoinpaidhmcaaGreatDoor
open Go.RowKit
theorem zAE {α:Type}(k:Nat):∀(n:Nat) (cs:List α) (f:Nat→List α),cs.length=n*k→(∀i,i<n→(cs.drop (i*k)).take k=f i)→cs=(List.range n).flatMap f:=by
 intro n
 induction n with
 |zero=>intro cs f h _;simp at h;simp[h]
 |succ n ih=>
   intro cs f h a;have d:(cs.take (n*k)).length=n*k:=(by rw[List.length_take,h,Nat.succ_mul];omega);have b:=ih (cs.take (n*k)) f d (by
    intro i e;rw[←a i (by omega),List.drop_take,List.take_take];congr 1;have:(i+1)*k≤n*k:=Nat.mul_le_mul_right k e;rw[Nat.succ_mul]at this;omega)
   have g:cs.drop (n*k)=f n:=by
    rw[←a n (by omega),List.take_of_length_le];rw[List.length_drop,h,Nat.succ_mul];omega
   rw[List.range_succ,List.flatMap_append,←b];simp only [List.flatMap_cons,List.flatMap_nil,List.append_nil];rw[←g,List.take_append_drop]
section
variable {H:Type} {enc:TypeId×Value→H} {P:Program} {w:World} {base:Nat} {sp:Nat→Bool} {held:Bool}
theorem zse {g:Nat} {t e:TypeId} {n k:Nat} {cs:List Value} {r:List (DataW H)} {p:List MemPlace} (u:P.underlying t=some (.array n e)) (v:P.cellsOf e=k) (x:P.cellsOf t=n*k)
 (h:DataW.trod enc P w base sp held g t cs=some (.agg r,p)) (f:Nat→List Value)
 (y:∀i d q m cs',i<n→r[i]?=some d→DataW.trod enc P w base sp held m e cs'=some (d,q)→cs'=f i):cs=(List.range n).flatMap f:=by
 obtain⟨a,m,_,l,s,z,o⟩:=DataW.trod_array u h;refine zAE k n cs f (by rw[s,x]) ?_;intro i j;have:=o i j;rw[v]at this;have b:a[i]?=some a[i]:=List.getElem?_eq_getElem (by omega);rw[b]at this;simp only [Prod.mk.injEq,DataW.agg.injEq]at l;refine y i (a[i]'(by omega)).1 (a[i]'(by omega)).2 m _ j ?_ this;rw[l.1,List.getElem?_map,b];rfl
theorem zMq {a:Nat}{t:TypeId}{cs:List Value}{l:List UInt8}{p:List MemPlace}(e:P.underlying t=some .string)(h:DataW.trod enc P w base sp held a t cs=some (.lit (.string l),p)):cs=[.string ⟨l.toArray⟩]:=by
 obtain⟨s,d,b,_⟩:=DataW.trod_string e h;simp only [Prod.mk.injEq,DataW.lit.injEq,Lit.string.injEq]at b;rw[d,b.1]
theorem zhp {a:Nat}{t:TypeId}{k:IntKind}{cs:List Value}{z:Int}{p:List MemPlace}(e:P.underlying t=some (.int k))(h:DataW.trod enc P w base sp held a t cs=some (.lit (.int k z),p)):cs=[.int k z]:=by
 obtain⟨n,d,b,_⟩:=DataW.trod_int e h;simp only [Prod.mk.injEq,DataW.lit.injEq,Lit.int.injEq]at b;rw[d,b.1.2]
theorem zuA {α:Type}{cs:List α}(j:cs.length=4){a b c d:α}(g:(cs.drop 0).take 1=[a])(e:(cs.drop 1).take 1=[b])(h:(cs.drop 2).take 1=[c])(i:(cs.drop 3).take 1=[d]):cs=[a,b,c,d]:=by
 match cs,j with
 | [x,y,z,u],_=>simp at g e h i;simp[g,e,h,i]
theorem zXB {q:Nat} {t:TypeId} {i f1 g e:Field} {cs:List Value} {a b:List UInt8} {x y:Int} {p:List MemPlace} (v:P.underlying t=some (.struct #[i,f1,g,e])) (I:P.cellsOf t=4)
 (D:i.offset=0) (J:f1.offset=1) (E:g.offset=2) (s:e.offset=3) (c0:P.cellsOf i.type=1) (c1:P.cellsOf f1.type=1) (B:P.cellsOf g.type=1) (H:P.cellsOf e.type=1)
 (A:P.underlying i.type=some .string) (C:P.underlying f1.type=some .string) (G:P.underlying g.type=some (.int .u8)) (F:P.underlying e.type=some (.int .u8))
 (h:DataW.trod enc P w base sp held q t cs=some (.agg [.lit (.string a),.lit (.string b),.lit (.int .u8 x),.lit (.int .u8 y)],p)):cs=[.string ⟨a.toArray⟩,.string ⟨b.toArray⟩,.int .u8 x,.int .u8 y]:=by
 obtain⟨r,m,_,k,u,z,d⟩:=DataW.trod_struct v h;have j:=d 0 i rfl;have o:=d 1 f1 rfl;have n:=d 2 g rfl;have l:=d 3 e rfl;rw[D,c0]at j;rw[J,c1]at o;rw[E,B]at n;rw[s,H]at l
 match r,z,k,j,o,n,l with
 | [(x0,q0),(x1,q1),(x2,q2),(x3,q3)],_,k,j,o,n,l=>
   simp only [List.map_cons,List.map_nil,Prod.mk.injEq,DataW.agg.injEq,List.cons.injEq,and_true]at k;obtain⟨⟨rfl,rfl,rfl,rfl⟩,_⟩:=k;exact zuA (by rw[u,I]) (zMq A j) (zMq C o) (zhp G n) (zhp F l)
end
end Go.Proofs.YtoeoinpaidhmcaaGreatDoor
