/- One text. -/
import Derived.ChangeArms
import Derived.LaidLaws
import Derived.OpenShut
namespace Go.Proofs.YtbbkihekjdffpaaGreatDoor
open Go.RowKit
theorem zAE {α:Type}(k:Nat):∀(n:Nat) (cs:List α) (f:Nat→List α),cs.length=n*k→(∀i,i<n→(cs.drop (i*k)).take k=f i)→cs=(List.range n).flatMap f:=by
 intro n
 induction n with
 |zero=>intro cs f h _;simp at h;simp[h]
 |succ n ih=>
   intro cs f h hf;have hl:(cs.take (n*k)).length=n*k:=(by rw[List.length_take,h,Nat.succ_mul];omega);have h1:=ih (cs.take (n*k)) f hl (by
    intro i hi;rw[←hf i (by omega),List.drop_take,List.take_take];congr 1;have:(i+1)*k≤n*k:=Nat.mul_le_mul_right k hi;rw[Nat.succ_mul]at this;omega)
   have h2:cs.drop (n*k)=f n:=by
    rw[←hf n (by omega),List.take_of_length_le];rw[List.length_drop,h,Nat.succ_mul];omega
   rw[List.range_succ,List.flatMap_append,←h1];simp only [List.flatMap_cons,List.flatMap_nil,List.append_nil];rw[←h2,List.take_append_drop]
section
variable {H:Type} {enc:TypeId×Value→H} {P:Program} {w:World} {base:Nat} {sp:Nat→Bool} {held:Bool}
theorem zse {fuel:Nat} {t e:TypeId} {n k:Nat} {cs:List Value} {ds:List (DataW H)} {p:List MemPlace} (ht:P.underlying t=some (.array n e)) (hk:P.cellsOf e=k) (hc:P.cellsOf t=n*k)
 (h:DataW.trod enc P w base sp held fuel t cs=some (.agg ds,p)) (f:Nat→List Value)
 (hf:∀i d q m cs',i<n→ds[i]?=some d→DataW.trod enc P w base sp held m e cs'=some (d,q)→cs'=f i):cs=(List.range n).flatMap f:=by
 obtain⟨xs,m,_,hx,hl,hn,hel⟩:=DataW.trod_array ht h;refine zAE k n cs f (by rw[hl,hc]) ?_;intro i hi;have:=hel i hi;rw[hk]at this;have hxi:xs[i]?=some xs[i]:=List.getElem?_eq_getElem (by omega);rw[hxi]at this;simp only [Prod.mk.injEq,DataW.agg.injEq]at hx;refine hf i (xs[i]'(by omega)).1 (xs[i]'(by omega)).2 m _ hi ?_ this;rw[hx.1,List.getElem?_map,hxi];rfl
theorem zMq {fuel:Nat}{t:TypeId}{cs:List Value}{l:List UInt8}{p:List MemPlace}(ht:P.underlying t=some .string)(h:DataW.trod enc P w base sp held fuel t cs=some (.lit (.string l),p)):cs=[.string ⟨l.toArray⟩]:=by
 obtain⟨s,h1,h2,_⟩:=DataW.trod_string ht h;simp only [Prod.mk.injEq,DataW.lit.injEq,Lit.string.injEq]at h2;rw[h1,h2.1]
theorem zhp {fuel:Nat}{t:TypeId}{k:IntKind}{cs:List Value}{z:Int}{p:List MemPlace}(ht:P.underlying t=some (.int k))(h:DataW.trod enc P w base sp held fuel t cs=some (.lit (.int k z),p)):cs=[.int k z]:=by
 obtain⟨n,h1,h2,_⟩:=DataW.trod_int ht h;simp only [Prod.mk.injEq,DataW.lit.injEq,Lit.int.injEq]at h2;rw[h1,h2.1.2]
theorem zuA {α:Type}{cs:List α}(hl:cs.length=4){a b c d:α}(h0:(cs.drop 0).take 1=[a])(h1:(cs.drop 1).take 1=[b])(h2:(cs.drop 2).take 1=[c])(h3:(cs.drop 3).take 1=[d]):cs=[a,b,c,d]:=by
 match cs,hl with
 | [x,y,z,u],_=>simp at h0 h1 h2 h3;simp[h0,h1,h2,h3]
theorem zXB {fuel:Nat} {t:TypeId} {f0 f1 f2 f3:Field} {cs:List Value} {a b:List UInt8} {x y:Int} {p:List MemPlace} (ht:P.underlying t=some (.struct #[f0,f1,f2,f3])) (hc:P.cellsOf t=4)
 (o0:f0.offset=0) (o1:f1.offset=1) (o2:f2.offset=2) (o3:f3.offset=3) (c0:P.cellsOf f0.type=1) (c1:P.cellsOf f1.type=1) (c2:P.cellsOf f2.type=1) (c3:P.cellsOf f3.type=1)
 (t0:P.underlying f0.type=some .string) (t1:P.underlying f1.type=some .string) (t2:P.underlying f2.type=some (.int .u8)) (t3:P.underlying f3.type=some (.int .u8))
 (h:DataW.trod enc P w base sp held fuel t cs=some (.agg [.lit (.string a),.lit (.string b),.lit (.int .u8 x),.lit (.int .u8 y)],p)):cs=[.string ⟨a.toArray⟩,.string ⟨b.toArray⟩,.int .u8 x,.int .u8 y]:=by
 obtain⟨xs,m,_,hx,hl,hn,hel⟩:=DataW.trod_struct ht h;have e0:=hel 0 f0 rfl;have e1:=hel 1 f1 rfl;have e2:=hel 2 f2 rfl;have e3:=hel 3 f3 rfl;rw[o0,c0]at e0;rw[o1,c1]at e1;rw[o2,c2]at e2;rw[o3,c3]at e3
 match xs,hn,hx,e0,e1,e2,e3 with
 | [(x0,q0),(x1,q1),(x2,q2),(x3,q3)],_,hx,e0,e1,e2,e3=>
   simp only [List.map_cons,List.map_nil,Prod.mk.injEq,DataW.agg.injEq,List.cons.injEq,and_true]at hx;obtain⟨⟨rfl,rfl,rfl,rfl⟩,_⟩:=hx;exact zuA (by rw[hl,hc]) (zMq t0 e0) (zMq t1 e1) (zhp t2 e2) (zhp t3 e3)
end
end Go.Proofs.YtbbkihekjdffpaaGreatDoor
