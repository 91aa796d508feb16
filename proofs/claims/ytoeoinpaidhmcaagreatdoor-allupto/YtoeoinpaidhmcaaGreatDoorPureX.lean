/- Several texts in one. -/
import Derived.Test.YtoeoinpaidhmcaaGreatDoorRefHL
import Derived.Lib.MapLaws
import Derived.Lib.ValidLaws
namespace Go.Proofs.YtoeoinpaidhmcaaGreatDoor
open Go.RowKit
def nats (l:List UInt8):List Nat:=l.map UInt8.toNat
def badD (l:List UInt8):Prop:=(Lib.decodeL l).1=65533∧(Lib.decodeL l).2=1
theorem zb5 {n a v:Int}(h:z5U n a (some v)≠0):a≤v∧v≤1114111∧(v<55296∨57343<v)∧z5U n a (some v)=n:=by
 unfold z5U at h⊢;dsimp only at h⊢;split at h
 ·exact absurd rfl h
 ·rename_i hh;rw[if_neg hh];omega
theorem ztp {b c:Nat}{r:List Nat}(a:194≤b)(d:b<224)(e:128≤c)(g:c≤191):zZe (b::c::r)=2:=by
 rw[zZe,if_neg (by omega),if_pos ⟨a,d⟩,zrv,if_pos ⟨e,g⟩,zrv,z5U,if_neg (by omega)]
theorem zw8 {b c d:Nat}{r:List Nat}(a:224≤b)(g:b<240)(h:128≤c)(j:c≤191)(e:128≤d)(i:d≤191)(v:Nat)(k:v=(b-224)*4096+(c-128)*64+(d-128))(l:2048≤v)(m:v<55296∨57343<v):zZe (b::c::d::r)=3:=by
 rw[zZe,if_neg (by omega),if_neg (by omega),if_pos ⟨a,g⟩,zrv,if_pos ⟨h,j⟩,zrv,if_pos ⟨e,i⟩,zrv,z5U,if_neg (by omega)]
theorem ze5 {b c d e:Nat}{r:List Nat}(h:240≤b)(j:b<245)(k:128≤c)(m:c≤191)(i:128≤d)(l:d≤191)(g:128≤e)(a:e≤191)(v:Nat)(n:v=(b-240)*262144+(c-128)*4096+(d-128)*64+(e-128))(o:65536≤v)(p:v≤1114111):zZe (b::c::d::e::r)=4:=by
 rw[zZe,if_neg (by omega),if_neg (by omega),if_neg (by omega),if_pos ⟨h,j⟩,zrv,if_pos ⟨k,m⟩,zrv,if_pos ⟨i,l⟩,zrv,if_pos ⟨g,a⟩,zrv,z5U,if_neg (by omega)]
theorem zDr {m:Nat}{v x:Int}{l:List Nat}(h:zrv (m+1) v l=some x):∃c t,l=c::t∧128≤c∧c≤191∧zrv m (64*v+(c:Int)-128) t=some x:=by
 cases l with
 |nil=>simp[zrv]at h
 |cons c t=>
   rw[zrv]at h;split at h
   ·rename_i hc;exact⟨c,t,rfl,hc.1,hc.2,h⟩
   ·cases h
theorem zjW {n a:Int}{o:Option Int}(h:z5U n a o≠0):∃v,o=some v:=by
 cases o with
 |none=>exact absurd rfl h
 |some v=>exact⟨v,rfl⟩
theorem z1s {b:Nat}{t:List Nat}(q:128≤b)(h:zZe (b::t)≠0):
 (∃c r,t=c::r∧194≤b∧b<224∧128≤c∧c≤191)∨
 (∃c d r,t=c::d::r∧224≤b∧b<240∧128≤c∧c≤191∧128≤d∧d≤191∧2048≤(b-224)*4096+(c-128)*64+(d-128)∧((b-224)*4096+(c-128)*64+(d-128)<55296∨57343<(b-224)*4096+(c-128)*64+(d-128)))∨
 (∃c d e r,t=c::d::e::r∧240≤b∧b<245∧128≤c∧c≤191∧128≤d∧d≤191∧128≤e∧e≤191∧65536≤(b-240)*262144+(c-128)*4096+(d-128)*64+(e-128)∧(b-240)*262144+(c-128)*4096+(d-128)*64+(e-128)≤1114111):=by
 rw[zZe,if_neg (by omega)]at h;split at h
 ·rename_i hr;obtain⟨v,a⟩:=zjW h;obtain⟨c,r,rfl,i,g,j⟩:=zDr a;exact Or.inl ⟨c,r,rfl,hr.1,hr.2,i,g⟩
 ·split at h
  ·rename_i hr;obtain⟨v,a⟩:=zjW h;rw[a]at h;obtain⟨c,r,rfl,i,g,j⟩:=zDr a;obtain⟨d,r,rfl,m,l,k⟩:=zDr j;rw[zrv]at k;have:=zb5 h;simp at k;exact Or.inr (Or.inl ⟨c,d,r,rfl,hr.1,hr.2,i,g,m,l,by omega,by omega⟩)
  ·split at h
   ·rename_i hr;obtain⟨v,a⟩:=zjW h;rw[a]at h;obtain⟨c,r,rfl,i,g,j⟩:=zDr a;obtain⟨d,r,rfl,m,l,k⟩:=zDr j;obtain⟨e,r,rfl,o,p,n⟩:=zDr k;rw[zrv]at n;have:=zb5 h;simp at n;exact Or.inr (Or.inr ⟨c,d,e,r,rfl,hr.1,hr.2,i,g,m,l,o,p,by omega,by omega⟩)
   ·exact absurd rfl h
theorem zUH (a:UInt8)(t:List UInt8):nats (a::t)=a.toNat::nats t:=rfl
theorem zAz {l:List UInt8}{c:Nat}{r:List Nat}(h:nats l=c::r):∃a t,l=a::t∧a.toNat=c∧nats t=r:=by
 cases l with
 |nil=>cases h
 |cons a t=>rw[zUH]at h;injection h with h1 h2;exact⟨a,t,rfl,h1,h2⟩
theorem zdQ {a:UInt8}{t:List UInt8}(r:128≤a.toNat)(i:¬badD (a::t)):zZe (nats (a::t))=((Lib.decodeL (a::t)).2:Int):=by
 unfold badD at i;rw[Lib.decodeL_N]at i⊢;have q:=a.toNat_lt;rcases Lib.decodeN_shape (a::t).length ((a::t).getD 0 0).toNat ((a::t).getD 1 0).toNat ((a::t).getD 2 0).toNat ((a::t).getD 3 0).toNat with ⟨c,e⟩|⟨c1,h,j,g,e⟩|⟨c1,h,j,k,g,cs,e⟩|⟨c1,h,j,k,o,g,m,e⟩|e
 ·simp at c;omega
 ·rw[e];clear e i;cases t with
  |nil=>simp at h
  |cons b t=>
    have n:=b.toNat_lt;simp only [List.getD_cons_zero,List.getD_cons_succ]at c1 j g;exact ztp (by omega) (by omega) (by omega) (by omega)
 ·rw[e];clear e i;cases t with
  |nil=>simp at h
  |cons b t=>
    cases t with
    |nil=>simp at h
    |cons c t=>
      have n:=b.toNat_lt;have p:=c.toNat_lt;simp only [List.getD_cons_zero,List.getD_cons_succ]at c1 j k g cs;rw[show a.toNat%16=a.toNat-224 by omega,show b.toNat%64=b.toNat-128 by omega,show c.toNat%64=c.toNat-128 by omega]at g cs;exact zw8 (by omega) (by omega) (by omega) (by omega) (by omega) (by omega) _ rfl g (by omega)
 ·rw[e];clear e i;cases t with
  |nil=>simp at h
  |cons b t=>
    cases t with
    |nil=>simp at h
    |cons c t=>
      cases t with
      |nil=>simp at h
      |cons d t=>
        have n:=b.toNat_lt;have p:=c.toNat_lt;have s:=d.toNat_lt;simp only [List.getD_cons_zero,List.getD_cons_succ]at c1 j k o g m;rw[show a.toNat%8=a.toNat-240 by omega,show b.toNat%64=b.toNat-128 by omega,show c.toNat%64=c.toNat-128 by omega,show d.toNat%64=d.toNat-128 by omega]at g m;have l:a.toNat<245:=(by omega);exact ze5 (by omega) l (by omega) (by omega) (by omega) (by omega) (by omega) (by omega) _ rfl g m
 ·rw[e]at i;exact absurd ⟨rfl,rfl⟩ i
theorem zvl {a:UInt8}{t:List UInt8}(l:128≤a.toNat)(h:zZe (nats (a::t))≠0):¬badD (a::t):=by
 unfold badD;rw[Lib.decodeL_N];have m:=a.toNat_lt;rcases z1s l h with ⟨c,r,i,j⟩|⟨c,d,r,i,j⟩|⟨c,d,e,r,i,j⟩
 ·obtain⟨b,t,rfl,rfl,_⟩:=zAz i;simp only [List.getD_cons_zero,List.getD_cons_succ,List.length_cons];unfold Lib.decodeN;rw[if_neg (by omega),if_pos (by omega),if_pos (by omega)];dsimp only;omega
 ·obtain⟨b,t,rfl,rfl,g⟩:=zAz i;obtain⟨c,t,rfl,rfl,_⟩:=zAz g;simp only [List.getD_cons_zero,List.getD_cons_succ,List.length_cons];unfold Lib.decodeN;rw[if_neg (by omega),if_neg (by omega),if_pos (by omega),if_pos (by omega)];dsimp only;omega
 ·obtain⟨b,t,rfl,rfl,g⟩:=zAz i;obtain⟨c,t,rfl,rfl,k⟩:=zAz g;obtain⟨d,t,rfl,rfl,_⟩:=zAz k;simp only [List.getD_cons_zero,List.getD_cons_succ,List.length_cons];unfold Lib.decodeN;rw[if_neg (by omega),if_neg (by omega),if_neg (by omega),if_pos (by omega),if_pos (by omega)];dsimp only;omega
theorem zJT {a:UInt8}{t:List UInt8}(k:128≤a.toNat):128≤(Lib.decodeL (a::t)).1:=by
 rw[Lib.decodeL_N];rcases Lib.decodeN_shape (a::t).length ((a::t).getD 0 0).toNat ((a::t).getD 1 0).toNat ((a::t).getD 2 0).toNat ((a::t).getD 3 0).toNat with ⟨c,e⟩|⟨c1,d,g,b,e⟩|⟨c1,d,g,h,b,cs,e⟩|⟨c1,d,g,h,i,b,j,e⟩|e
 ·simp at c;omega
 all_goals rw[e];dsimp only;omega
def RUf:Nat→List UInt8→List Nat
 |0,_=>[]
 |f+1,l=>if l=[]then []else(Lib.decodeL l).1::RUf f (l.drop (Lib.decodeL l).2)
def RU (l:List UInt8):List Nat:=RUf l.length l
theorem zVc (n:Nat):∀(l:List UInt8) (f g:Nat),l.length≤n→l.length≤f→l.length≤g→RUf f l=RUf g l:=by
 induction n with
 |zero=>
   intro l f g h _ _;have:l=[]:=List.length_eq_zero_iff.1 (by omega);subst this;cases f<;>cases g<;>simp[RUf]
 |succ n ih=>
   intro l f g h d b;cases l with
   |nil=>cases f<;>cases g<;>simp[RUf]
   |cons a t=>
     simp only [List.length_cons]at d b h;obtain⟨f,rfl⟩:∃x,f=x+1:=⟨f-1,by omega⟩;obtain⟨g,rfl⟩:∃x,g=x+1:=⟨g-1,by omega⟩;unfold RUf;rw[if_neg (by simp),if_neg (by simp)];have i:=Lib.decodeL_width (a::t);have e:((a::t).drop (Lib.decodeL (a::t)).2).length≤t.length:=by
      simp only [List.length_drop,List.length_cons];omega
     rw[ih _ f g (by omega) (by omega) (by omega)]
theorem zLp (l:List UInt8)(a:l≠[]):RU l=(Lib.decodeL l).1::RU (l.drop (Lib.decodeL l).2):=by
 have e:0<l.length:=List.length_pos_iff.2 a;have d:=Lib.decodeL_width l;obtain⟨n,b⟩:∃n,l.length=n+1:=⟨l.length-1,by omega⟩;unfold RU;rw[b,RUf,if_neg a];rw[zVc _ _ n ((l.drop (Lib.decodeL l).2).length) zH (by simp only [List.length_drop];omega) zH]
theorem zgF:RU []=[]:=rfl
theorem z2D (a:UInt8)(t:List UInt8)(h:a.toNat<128):RU (a::t)=a.toNat::RU t:=by
 rw[zLp _ (by simp),Lib.decodeL_ascii a t h];rfl
theorem zTH (n:Nat):∀l:List UInt8,l.length≤n→(RU l).length≤l.length:=by
 induction n with
 |zero=>intro l h;have:l=[]:=List.length_eq_zero_iff.1 (by omega);subst this;simp[zgF]
 |succ n ih=>
   intro l h;cases l with
   |nil=>simp[zgF]
   |cons a t=>
     rw[zLp _ (by simp)];have b:=Lib.decodeL_width (a::t);have:=ih ((a::t).drop (Lib.decodeL (a::t)).2) (by simp only [List.length_drop,List.length_cons]at *;omega);simp only [List.length_drop,List.length_cons]at *;omega
theorem zdh (s:ByteArray):∀(f i:Nat),s.size≤i+f→runesL s f i=RU (s.data.toList.drop i):=by
 intro f
 induction f with
 |zero=>
   intro i h;rw[List.drop_eq_nil_of_le (by simpa using h)];rfl
 |succ f ih=>
   intro i h;unfold runesL;by_cases hi:i<s.size
   ·rw[if_pos hi,zLp _ (by intro e;have:=congrArg List.length e;simp at this;have:s.data.size=s.size:=rfl;omega),Lib.decodeL_drop,List.drop_drop];have a:=Lib.decodeL_width (s.data.toList.drop i);rw[Lib.decodeL_drop]at a;rw[ih _ (by omega)]
   ·rw[if_neg hi,List.drop_eq_nil_of_le (by simpa using hi)];rfl
theorem zpw (s:ByteArray):runesOf s=RU s.data.toList:=by
 unfold runesOf;rw[zdh s _ _ (by omega),List.drop_zero]
def Sim:List Nat→List Nat→Prop
 | [],[]=>True
 |a::s,b::t=>(a=b∧a<128∧Sim s t)∨(128≤a∧128≤b)
 |_,_=>False
theorem zFM (n:Nat):∀l:List UInt8,l.length≤n→Sim (nats l) (RU l):=by
 induction n with
 |zero=>intro l h;have:l=[]:=List.length_eq_zero_iff.1 (by omega);subst this;exact trivial
 |succ n ih=>
   intro l h;cases l with
   |nil=>exact trivial
   |cons a t=>
     by_cases ha:a.toNat<128
     ·rw[z2D a t ha,zUH];exact Or.inl ⟨rfl,ha,ih t (by simpa using h)⟩
     ·rw[zLp _ (by simp),zUH];exact Or.inr ⟨by omega,zJT (by omega)⟩
def Pre:Nat→List Nat→Prop
 |0,_=>True
 |_+1,[]=>False
 |m+1,c::t=>c<128∧Pre m t
theorem Pre.sim {m:Nat}:∀ {a b:List Nat},Sim a b→Pre m a→Sim (a.drop m) (b.drop m)∧b.take m=a.take m∧Pre m b:=by
 induction m with
 |zero=>intro a b h _;exact⟨h,rfl,trivial⟩
 |succ m ih=>
   intro a b h d
   match a,b,h,d with
   |x::s,y::t,h,d=>
     obtain⟨e,d⟩:=d;rcases h with ⟨rfl,_,h⟩|⟨h,_⟩
     ·have:=ih h d;exact⟨this.1,by simp[this.2.1],e,this.2.2⟩
     ·omega
theorem Pre.bytes {m:Nat}:∀ {l:List UInt8},Pre m (nats l)→RU l=(nats l).take m++RU (l.drop m)∧Lib.validD l=Lib.validD (l.drop m):=by
 induction m with
 |zero=>intro l _;simp
 |succ m ih=>
   intro l h;cases l with
   |nil=>exact h.elim
   |cons a t=>
     rw[zUH]at h;have:=ih h.2;rw[z2D a t h.1,this.1,Lib.validD_cons a t h.1,this.2,zUH];simp
theorem Pre.len {m:Nat}:∀ {l:List Nat},Pre m l→m≤l.length:=by
 induction m with
 |zero=>intro l _;omega
 |succ m ih=>intro l h;cases l with
   |nil=>exact h.elim
   |cons a t=>have:=ih h.2;simp;omega
theorem Pre.drop {m:Nat}{l:List UInt8}(h:Pre m (nats l)):(RU l).drop m=RU (l.drop m):=by
 rw[h.bytes.1];have a:((nats l).take m).length=m:=by rw[List.length_take];have:=h.len;omega
 rw[List.drop_append_of_le_length (by omega),List.drop_eq_nil_of_le (by omega),List.nil_append]
theorem Pre.add {m k:Nat}:∀ {l:List Nat},Pre m l→Pre k (l.drop m)→Pre (m+k) l:=by
 induction m with
 |zero=>intro l _ h;simpa using h
 |succ m ih=>
   intro l h a;cases l with
   |nil=>exact h.elim
   |cons c t=>
     rw[Nat.succ_add];exact⟨h.1,ih h.2 (by simpa using a)⟩
theorem zBEX {c:Nat}(h:128≤c):hexB c=false:=by unfold hexB;simp;omega
theorem zme (m:Nat):∀(v:Int) {a b:List Nat},Sim a b→zyQ m v a=zyQ m v b:=by
 induction m with
 |zero=>intro v a b _;rfl
 |succ m ih=>
   intro v a b h
   match a,b,h with
   | [],[],_=>rfl
   |x::s,y::t,h=>
     rcases h with ⟨rfl,_,h⟩|⟨d,e⟩
     ·unfold zyQ;rw[ih _ h]
     ·unfold zyQ;rw[zBEX d,zBEX e];rfl
theorem zEB (m:Nat):∀(v:Int) {a:List Nat} {x:Int},zyQ m v a=some x→Pre m a:=by
 induction m with
 |zero=>intro v a x _;exact trivial
 |succ m ih=>
   intro v a x h;cases a with
   |nil=>simp[zyQ]at h
   |cons c t=>
     unfold zyQ at h;split at h
     ·rename_i hb;refine⟨?_,ih _ h⟩;apply Decidable.byContradiction;intro b;rw[zBEX (by omega)]at hb;cases hb
     ·cases h
theorem z0Y {w:List Nat}(d:∀c∈w,c<128):∀ {a b:List Nat},Sim a b→eats w a=eats w b:=by
 induction w with
 |nil=>intro a b _;rfl
 |cons x w ih=>
   intro a b h
   match a,b,h with
   | [],[],_=>rfl
   |p::s,q::t,h=>
     rcases h with ⟨rfl,_,h⟩|⟨e,g⟩
     ·unfold eats;rw[ih (fun c hc=>d c (by simp[hc])) h]
     ·have:=d x (by simp);unfold eats;rw[show(x==p)=false by simp;omega,show(x==q)=false by simp;omega];rfl
theorem z3s {w:List Nat}(b:∀c∈w,c<128):∀ {a:List Nat},eats w a=true→Pre w.length a:=by
 induction w with
 |nil=>intro a _;exact trivial
 |cons x w ih=>
   intro a h;cases a with
   |nil=>simp[eats]at h
   |cons c t=>
     simp[eats]at h;exact⟨by rw[←h.1];exact b x (by simp),ih (fun c hc=>b c (by simp[hc])) h.2⟩
theorem w92:∀c∈[92,117],c<128:=by decide
theorem zJS {a b:List Nat}(h:Sim a b):z2Bk a=z2Bk b:=by
 unfold z2Bk;have j:four a=four b:=zme 4 0 h;rw[←j];cases hf:four a with
 |none=>rfl
 |some v=>
   have i:=zEB 4 0 hf;have g:=(Pre.sim h i).1;dsimp only;rw[←z0Y w92 g];split
   ·rfl
   ·split
    ·split
     ·rename_i he;have e:=z3s w92 he;have d:=(Pre.sim g e).1;rw[List.drop_drop,List.drop_drop]at d;have k:four (a.drop 6)=four (b.drop 6):=zme 4 0 d;rw[k]
     ·rfl
    ·rfl
theorem znm {a:List Nat}{v:Int}{n:Nat}(h:z2Bk a=some (v,n)):Pre n a:=by
 unfold z2Bk at h;split at h
 ·cases h
 ·rename_i x hf;have b:=zEB 4 0 hf;split at h
  ·cases h
  ·split at h
   ·split at h
    ·rename_i he;have e:=z3s w92 he;split at h
     ·cases h
     ·rename_i y hg;have d:=zEB 4 0 hg;split at h
      ·simp at h;rw[←h.2];exact b.add (k:=6) (e.add (k:=4) (by rw[List.drop_drop];exact d))
      ·cases h
    ·cases h
   ·simp at h;rw[←h.2];exact b
theorem z3P {a b:List Nat}(h:Sim a b):zvTw a=zvTw b:=by
 match a,b,h with
 | [],[],_=>rfl
 |x::s,y::t,h=>
   rcases h with ⟨rfl,_,h⟩|⟨d,e⟩
   ·unfold zvTw;dsimp only;rw[zJS h]
   ·have q:∀z:Nat,128≤z→∀l,zvTw (z::l)=none:=by
     intro z g l;unfold zvTw;dsimp only;rw[if_neg (by simp;omega),if_neg (by simp;omega),if_neg (by simp;omega),if_neg (by simp;omega),if_neg (by simp;omega),if_neg (by simp;omega),if_neg (by simp;omega),if_neg (by simp;omega),if_neg (by simp;omega)]
    rw[q x d,q y e]
theorem zx5 {a:List Nat}{v:Int}{n:Nat}(h:zvTw a=some (v,n)):Pre n a:=by
 cases a with
 |nil=>cases h
 |cons c t=>
   by_cases hc:c<128
   ·unfold zvTw at h;dsimp only at h
    (repeat' split at h)<;>first
     | (simp at h;rw[←h.2];exact⟨hc,trivial⟩)
     | (cases h;done)
     | (rename_i x m hq;simp at h;rw[←h.2];exact⟨hc,znm hq⟩)
   ·unfold zvTw at h;dsimp only at h;rw[if_neg (by simp;omega),if_neg (by simp;omega),if_neg (by simp;omega),if_neg (by simp;omega),if_neg (by simp;omega),if_neg (by simp;omega),if_neg (by simp;omega),if_neg (by simp;omega),if_neg (by simp;omega)]at h;cases h
theorem zWB (l:List UInt8):zU1 (nats l)=l:=by
 unfold zU1 nats
 induction l with
 |nil=>rfl
 |cons a t ih=>simp only [List.map_cons,ih];congr 1;exact UInt8.ofNat_toNat
theorem zE2 (l:List UInt8)(n:Nat):(nats l).drop n=nats (l.drop n):=by unfold nats;rw[List.map_drop]
theorem zJh (l:List UInt8)(n:Nat):(nats l).take n=nats (l.take n):=by unfold nats;rw[List.map_take]
theorem zkw (a:UInt8)(h:a.toNat<128):Lib.encodeRune (a.toNat:Int)=[a]:=by
 unfold Lib.encodeRune;rw[Lib.encodeRuneZ_one (by omega) (by omega)];simp
theorem zfF {a:Nat}{t:List Nat}(h:a<128):zZe (a::t)=1:=by rw[zZe,if_pos h]
theorem zsy (f:Nat):∀(b:List UInt8) (t:List UInt8),
 (∃v r,z6V f b (nats t)=some (v,nats r)∧Lib.validD r=Lib.validD t∧r.length<t.length∧(Lib.validD t=true→z9u f b (RU t)=some (v,RU r)))∨
 (z6V f b (nats t)=none∧(Lib.validD t=true→z9u f b (RU t)=none)):=by
 induction f with
 |zero=>intro b t;right;exact⟨rfl,fun _=>rfl⟩
 |succ f ih=>
   intro b t;cases t with
   |nil=>right;exact⟨rfl,fun _=>rfl⟩
   |cons a t=>
     by_cases ha:a.toNat<128
     ·rw[z2D a t ha,zUH,Lib.validD_cons a t ha];by_cases h34:a.toNat=34
      ·left;refine⟨b,t,?_,rfl,by simp,fun _=>?_⟩
       ·rw[z6V,if_pos h34]
       ·rw[z9u,if_pos (by simp;omega)]
      ·by_cases h92:a.toNat=92
       ·cases hx:zvTw (nats t)with
        |none=>
          right;refine⟨by rw[z6V,if_neg h34,if_pos h92,hx],fun _=>?_⟩;rw[z9u,if_neg (by simp;omega),if_neg (by omega),if_pos (by simp;omega),←z3P (zFM _ t zH),hx]
        |some p=>
          obtain⟨v,n⟩:=p;have s:=zx5 hx;have m:z6V (f+1) b (a.toNat::nats t)=z6V f (b++Lib.encodeRune v) (nats (t.drop n)):=by
           rw[z6V,if_neg h34,if_pos h92,hx,←zE2]
          have l:z9u (f+1) b (a.toNat::RU t)=z9u f (b++Lib.encodeRune v) (RU (t.drop n)):=by
           rw[z9u,if_neg (by simp;omega),if_neg (by omega),if_pos (by simp;omega),←z3P (zFM _ t zH),hx,←s.drop]
          rw[m,l,s.bytes.2];rcases ih (b++Lib.encodeRune v) (t.drop n)with ⟨w,r,g,e,o,k⟩|⟨g,e⟩
          ·left;exact⟨w,r,g,e,by simp at o⊢;omega,k⟩
          ·right;exact⟨g,e⟩
       ·have u:zZe (a.toNat::nats t)=1:=zfF ha;by_cases h32:a.toNat<32
        ·right;refine⟨by rw[z6V,if_neg h34,if_neg h92,if_pos (Or.inr h32)],fun _=>?_⟩;rw[z9u,if_neg (by simp;omega),if_pos (by omega)]
        ·have m:z6V (f+1) b (a.toNat::nats t)=z6V f (b++[a]) (nats t):=by
          rw[z6V,if_neg h34,if_neg h92,u,if_neg (by omega)];simp[zU1]
         have l:z9u (f+1) b (a.toNat::RU t)=z9u f (b++[a]) (RU t):=by
          rw[z9u,if_neg (by simp;omega),if_neg (by omega),if_neg (by simp;omega),zkw a ha]
         rw[m,l];rcases ih (b++[a]) t with ⟨w,r,g,e,o,k⟩|⟨g,e⟩
         ·left;exact⟨w,r,g,e,by simp;omega,k⟩
         ·right;exact⟨g,e⟩
     ·have j:128≤a.toNat:=(by omega);by_cases hb:badD (a::t)
      ·have q:Lib.validD (a::t)=false:=(by rw[Lib.validD_step _ (by simp)];exact if_pos hb);have i:zZe (a.toNat::nats t)=0:=by
        apply Decidable.byContradiction;intro i;exact zvl j i hb
       right;refine⟨?_,fun h=>by rw[q]at h;cases h⟩;rw[zUH,z6V,if_neg (by omega),if_neg (by omega),if_pos (Or.inl i)]
      ·have q:Lib.validD (a::t)=Lib.validD ((a::t).drop (Lib.decodeL (a::t)).2):=(by rw[Lib.validD_step _ (by simp)];exact if_neg hb);have i:=zdQ j hb;have A:=Lib.decodeL_width (a::t);have z:=zJT (a:=a) (t:=t) j;have x:=Lib.encode_decode (a::t) (by simp) hb;rw[zLp _ (by simp),q];generalize Lib.decodeL (a::t)=d at*;obtain⟨y,n⟩:=d;dsimp only at*;have m:z6V (f+1) b (nats (a::t))=z6V f (b++(a::t).take n) (nats ((a::t).drop n)):=by
        rw[zUH]at i⊢;rw[z6V,if_neg (by omega),if_neg (by omega),i,if_neg (by omega),←zUH,Int.toNat_natCast,zJh,zWB,zE2]
       have l:z9u (f+1) b (y::RU ((a::t).drop n))=z9u f (b++(a::t).take n) (RU ((a::t).drop n)):=by
        rw[z9u,if_neg (by simp;omega),if_neg (by omega),if_neg (by simp;omega),x]
       rw[m,l];rcases ih (b++(a::t).take n) ((a::t).drop n)with ⟨w,r,g,e,o,k⟩|⟨g,e⟩
       ·left;exact⟨w,r,g,e,by simp only [List.length_drop,List.length_cons]at o⊢;omega,k⟩
       ·right;exact⟨g,e⟩
theorem zGR (n:Nat):∀(l:List Nat) (f a:Nat) (b:List UInt8),l.length≤n→l.length<f→l.length<a→z9u f b l=z9u a b l:=by
 induction n with
 |zero=>
   intro l f a b h e d;have:l=[]:=List.length_eq_zero_iff.1 (by omega);subst this;cases f<;>cases a<;>rfl
 |succ n ih=>
   intro l f a b h e d;cases l with
   |nil=>cases f<;>cases a<;>rfl
   |cons c t=>
     simp only [List.length_cons]at h e d;obtain⟨f,rfl⟩:∃g,f=g+1:=⟨f-1,by omega⟩;obtain⟨a,rfl⟩:∃g,a=g+1:=⟨a-1,by omega⟩;unfold z9u;split
     ·rfl
     ·split
      ·rfl
      ·split
       ·cases hx:zvTw t with
        |none=>rfl
        |some p=>exact ih _ f a _ (by simp;omega) (by simp;omega) (by simp;omega)
       ·exact ih t f a _ (by omega) (by omega) (by omega)
def zoOb (t:List Nat):Option (List UInt8×List Nat):=z9u (t.length+1) [] t
theorem z3a (t:List UInt8):
 (∃v r,zEm (nats t)=some (v,nats r)∧Lib.validD r=Lib.validD t∧r.length<t.length∧(Lib.validD t=true→zoOb (RU t)=some (v,RU r)))∨
 (zEm (nats t)=none∧(Lib.validD t=true→zoOb (RU t)=none)):=by
 unfold zEm zoOb;have a:(nats t).length=t.length:=by simp[nats]
 have:=zTH _ t zH;rw[a,zGR _ (RU t) ((RU t).length+1) (t.length+1) [] zH (by omega) (by omega)];exact zsy (t.length+1) [] t
theorem zlf {c:Nat}(h:128≤c):zOT c=false:=by unfold zOT;simp;omega
theorem zF1:∀ {a b:List Nat},Sim a b→wordLen a=wordLen b:=by
 intro a
 induction a with
 |nil=>intro b h;cases b with
   |nil=>rfl
   |cons _ _=>exact h.elim
 |cons x s ih=>
   intro b h;cases b with
   |nil=>exact h.elim
   |cons y t=>
     rcases h with ⟨rfl,_,h⟩|⟨d,e⟩
     ·unfold wordLen;rw[ih h]
     ·unfold wordLen;rw[zlf d,zlf e];rfl
theorem zob:∀l:List Nat,Pre (wordLen l) l:=by
 intro l
 induction l with
 |nil=>exact trivial
 |cons c t ih=>
   unfold wordLen;split
   ·rename_i hb;refine⟨?_,ih⟩;apply Decidable.byContradiction;intro a;rw[zlf (by omega)]at hb;cases hb
   ·exact trivial
def zom:Nat→List Pc→List Nat→Option (List Pc)
 |0,_,_=>none
 |_+1,acc,[]=>some acc
 |f+1,acc,c::t=>if zEz c then zom f acc t else if z7R c then zom f (acc++[(c,[])]) t
   else if c=34 then(match zoOb t with|none=>none|some (v,r)=>zom f (acc++[(34,v)]) r)
   else if wordLen (c::t)=0 then none else zom f (acc++[(119,zU1 ((c::t).take (wordLen (c::t))))]) ((c::t).drop (wordLen (c::t)))
theorem zFw {c:Nat}(h:128≤c):zEz c=false:=by unfold zEz;simp;omega
theorem zAf {c:Nat}(h:128≤c):z7R c=false:=by unfold z7R;simp;omega
theorem zCq (f:Nat):∀(d:List Pc) (t:List UInt8),z3RT f d (nats t)=if Lib.validD t then zom f d (RU t)else none:=by
 induction f with
 |zero=>intro d t;split<;>rfl
 |succ f ih=>
   intro d t;cases t with
   |nil=>rfl
   |cons a t=>
     by_cases ha:a.toNat<128
     ·have k:=zFM _ (a::t) zH;have h:=zF1 k;have b:=zob (nats (a::t));rw[z2D a t ha]at h;rw[z2D a t ha,zUH,Lib.validD_cons a t ha,z3RT,zom];by_cases h1:zEz a.toNat
      ·rw[if_pos h1,if_pos h1];exact ih d t
      ·rw[if_neg h1,if_neg h1];by_cases h2:z7R a.toNat
       ·rw[if_pos h2,if_pos h2];exact ih _ t
       ·rw[if_neg h2,if_neg h2];by_cases h3:a.toNat=34
        ·rw[if_pos h3,if_pos h3];rcases z3a t with ⟨v,r,i,j,q,p⟩|⟨i,j⟩
         ·rw[i];dsimp only;rw[ih,j];split
          ·rename_i hv;rw[p hv]
          ·rfl
         ·rw[i];dsimp only;split
          ·rename_i hv;rw[j hv]
          ·rfl
        ·rw[if_neg h3,if_neg h3,←h,zUH];rw[zUH]at b;have o:=Pre.bytes (l:=a::t) (by rw[zUH];exact b);have g:=Pre.drop (l:=a::t) (by rw[zUH];exact b);have m:=(Pre.sim k (by rw[zUH];exact b)).2.1;rw[z2D a t ha,zUH]at m;rw[z2D a t ha]at g;generalize wordLen (a.toNat::nats t)=n at*;by_cases h4:n=0
         ·rw[if_pos h4,if_pos h4];simp
         ·rw[if_neg h4,if_neg h4,m,g,←zUH,zE2,ih,←o.2,Lib.validD_cons a t ha]
     ·have e:128≤a.toNat:=(by omega);rw[zUH,z3RT,if_neg (by rw[zFw e];simp),if_neg (by rw[zAf e];simp),if_neg (by omega),if_pos (by unfold wordLen;rw[zlf e];rfl)];have g:=zJT (a:=a) (t:=t) e;split
      ·rw[zLp _ (by simp),zom,if_neg (by rw[zFw g];simp),if_neg (by rw[zAf g];simp),if_neg (by omega),if_pos (by unfold wordLen;rw[zlf g];rfl)]
      ·rfl
theorem zncd (f:Nat):∀(a:List Pc) (l:List Nat),zom f a l=(zom f [] l).map (a++·):=by
 induction f with
 |zero=>intro a l;rfl
 |succ f ih=>
   intro a l;cases l with
   |nil=>simp[zom]
   |cons c t=>
     unfold zom;split
     ·exact ih a t
     ·split
      ·rw[ih (a++[(c,[])]),ih ([]++[(c,[])])];cases zom f [] t<;>simp
      ·split
       ·cases zoOb t with
        |none=>rfl
        |some p=>
          obtain⟨v,r⟩:=p;dsimp only;rw[ih (a++[(34,v)]),ih ([]++[(34,v)])];cases zom f [] r<;>simp
       ·split
        ·rfl
        ·rw[ih (a++_),ih ([]++_)];cases zom f [] _<;>simp
theorem zZo {t:List Nat}{v:List UInt8}{r:List Nat}(h:zoOb t=some (v,r)):r.length<t.length:=zAt _ _ _ _ _ h
theorem zVt (n:Nat):∀(l:List Nat) (f a:Nat) (b:List Pc),l.length≤n→l.length<f→l.length<a→zom f b l=zom a b l:=by
 induction n with
 |zero=>
   intro l f a b h e d;have:l=[]:=List.length_eq_zero_iff.1 (by omega);subst this;obtain⟨f,rfl⟩:∃g,f=g+1:=⟨f-1,by omega⟩;obtain⟨a,rfl⟩:∃g,a=g+1:=⟨a-1,by omega⟩;rfl
 |succ n ih=>
   intro l f a b h e d;obtain⟨f,rfl⟩:∃g,f=g+1:=⟨f-1,by omega⟩;obtain⟨a,rfl⟩:∃g,a=g+1:=⟨a-1,by omega⟩;cases l with
   |nil=>rfl
   |cons c t=>
     simp only [List.length_cons]at h e d;unfold zom;split
     ·exact ih t f a _ (by omega) (by omega) (by omega)
     ·split
      ·exact ih t f a _ (by omega) (by omega) (by omega)
      ·split
       ·cases hx:zoOb t with
        |none=>rfl
        |some p=>
          obtain⟨v,r⟩:=p;have:=zZo hx;exact ih r f a _ (by omega) (by omega) (by omega)
       ·split
        ·rfl
        ·exact ih _ f a _ (by simp only [List.length_drop,List.length_cons];omega) (by simp only [List.length_drop,List.length_cons];omega) (by simp only [List.length_drop,List.length_cons];omega)
def lex (l:List Nat):Option (List Pc):=zom (l.length+1) [] l
theorem zwA (l:List Nat)(f:Nat)(a:List Pc)(h:l.length<f):zom f a l=(lex l).map (a++·):=by
 unfold lex;rw[zncd,zVt l.length l f (l.length+1) [] zH h (by omega)]
theorem zDC:lex []=some []:=rfl
theorem zq9 {c:Nat}{t:List Nat}(h:zEz c=true):lex (c::t)=lex t:=by
 show zom ((c::t).length+1) [] (c::t)=_;rw[zom,if_pos h,zwA t _ _ (by simp)];cases lex t<;>simp
theorem zBW {c:Nat}(h:z7R c=true):zEz c=false:=by unfold z7R at h;unfold zEz;simp at h⊢;omega
theorem zzX {c:Nat}{t:List Nat}(h:z7R c=true):lex (c::t)=(lex t).map ((c,[])::·):=by
 show zom ((c::t).length+1) [] (c::t)=_;rw[zom,if_neg (by rw[zBW h];simp),if_pos h,zwA t _ _ (by simp)];cases lex t<;>simp
theorem zjK (t:List Nat):lex (34::t)=match zoOb t with|none=>none|some (v,r)=>(lex r).map ((34,v)::·):=by
 show zom ((34::t).length+1) [] (34::t)=_;rw[zom,if_neg (by decide),if_neg (by decide),if_pos rfl];cases hx:zoOb t with
 |none=>rfl
 |some p=>
   obtain⟨v,r⟩:=p;have:=zZo hx;dsimp only;rw[zwA r _ _ (by simp;omega)];cases lex r<;>simp
theorem zHT {c:Nat}(h:zOT c=true):zEz c=false∧z7R c=false∧c≠34:=by
 unfold zOT at h;unfold zEz z7R;simp at h⊢;omega
theorem zdc {c:Nat}{t:List Nat}(h:zOT c=true):wordLen (c::t)=wordLen t+1:=by unfold wordLen;rw[if_pos h];cases t<;>rfl
theorem z9o {c:Nat}{t:List Nat}(h:zOT c=true):lex (c::t)=(lex ((c::t).drop (wordLen (c::t)))).map ((119,zU1 ((c::t).take (wordLen (c::t))))::·):=by
 have a:=zHT h;have b:=zdc (t:=t) h;have e:lex (c::t)=zom ((c::t).length+1) [] (c::t):=rfl;rw[e,zom,if_neg (by rw[a.1];simp),if_neg (by rw[a.2.1];simp),if_neg a.2.2,if_neg (by omega),zwA ((c::t).drop (wordLen (c::t))) _ _ (by simp only [List.length_drop,List.length_cons];omega)];cases lex ((c::t).drop (wordLen (c::t)))<;>simp
theorem zEw {c:Nat}{t:List Nat}(a:zEz c=false)(b:z7R c=false)(d:c≠34)(e:zOT c=false):lex (c::t)=none:=by
 show zom ((c::t).length+1) [] (c::t)=_;rw[zom,if_neg (by rw[a];simp),if_neg (by rw[b];simp),if_neg d,if_pos (by unfold wordLen;rw[e];rfl)]
theorem zby (c:Nat):zE1 (c:Int)=zEz c:=by rw[Bool.eq_iff_iff];unfold zE1 zEz;simp;omega
theorem zge (l:List Nat):lex (zek l)=lex l:=by
 induction l with
 |nil=>rfl
 |cons c t ih=>
   unfold zek;split
   ·rename_i h;rw[ih,zq9 (by rw[←zby];exact h)]
   ·rfl
theorem zQj (l:List Nat):zek (zek l)=zek l:=by
 induction l with
 |nil=>rfl
 |cons c t ih=>
   by_cases h:zE1 c=true
   ·rw[zek,if_pos h];exact ih
   ·rw[zek,if_neg h,zek,if_neg h]
theorem zYq {l:List Nat}(a:zek l=l){p:Pc}{ps:List Pc}(h:lex l=some (p::ps)):
 ∃c t,l=c::t∧((z7R c=true∧p.1=c)∨(c=34∧p.1=34)∨(zOT c=true∧p.1=119)):=by
 cases l with
 |nil=>simp[zDC]at h
 |cons c t=>
   refine⟨c,t,rfl,?_⟩;have b:zEz c=false:=by
    rw[←zby];cases hx:zE1 c with
    |false=>rfl
    |true=>
      rw[zek,if_pos hx]at a;have:=congrArg List.length a;have:=zH7 t;simp at *;omega
   by_cases hm:z7R c=true
   ·left;rw[zzX hm]at h;cases hl:lex t with
    |none=>rw[hl]at h;cases h
    |some qs=>rw[hl]at h;simp at h;exact⟨hm,by rw[←h.1]⟩
   ·by_cases h34:c=34
    ·right;left;subst h34;rw[zjK]at h;refine⟨rfl,?_⟩;cases hx:zoOb t with
     |none=>rw[hx]at h;cases h
     |some q=>
       obtain⟨v,r⟩:=q;rw[hx]at h;dsimp only at h;cases hl:lex r with
       |none=>rw[hl]at h;cases h
       |some qs=>rw[hl]at h;simp at h;rw[←h.1]
    ·by_cases hw:zOT c=true
     ·right;right;rw[z9o hw]at h;refine⟨hw,?_⟩;cases hl:lex ((c::t).drop (wordLen (c::t)))with
      |none=>rw[hl]at h;cases h
      |some qs=>rw[hl]at h;simp at h;rw[←h.1]
     ·rw[zEw b (by simpa using hm) h34 (by simpa using hw)]at h;cases h
theorem zJl (l:List Nat):lex l=some []↔zek l=[]:=by
 induction l with
 |nil=>simp[zDC,zek]
 |cons c t ih=>
   by_cases hb:zE1 c=true
   ·rw[zek,if_pos hb,zq9 (by rw[←zby];exact hb)];exact ih
   ·have b:zek (c::t)=c::t:=(by rw[zek,if_neg hb]);rw[b];constructor
    ·intro h;exfalso;have a:zEz c=false:=(by rw[←zby];simpa using hb);by_cases hm:z7R c=true
     ·rw[zzX hm]at h;cases hl:lex t<;>rw[hl]at h<;>simp at h
     ·by_cases h34:c=34
      ·subst h34;rw[zjK]at h;cases hx:zoOb t with
       |none=>rw[hx]at h;cases h
       |some q=>rw[hx]at h;obtain⟨v,r⟩:=q;dsimp only at h;cases hl:lex r<;>rw[hl]at h<;>simp at h
      ·by_cases hw:zOT c=true
       ·rw[z9o hw]at h;cases hl:lex ((c::t).drop (wordLen (c::t)))<;>rw[hl]at h<;>simp at h
       ·rw[zEw a (by simpa using hm) h34 (by simpa using hw)]at h;cases h
    ·intro h;cases h
abbrev RM:=List UInt8×Nat×List UInt8×Int
def valP (p:Pc):Nat×List UInt8×Int×Bool:=
 ((zMi p.1 ⟨p.2.toArray⟩).1,(zMi p.1 ⟨p.2.toArray⟩).2.1.data.toList,(zMi p.1 ⟨p.2.toArray⟩).2.2.1,(zMi p.1 ⟨p.2.toArray⟩).2.2.2)
def mkRM (k v:Pc):RM:=(k.2,(valP v).1,(valP v).2.1,(valP v).2.2.1)
def T:List Pc→Option (List RM)
 |k::c::v::e::r=>if(valP v).2.2.2=true∧k.1=34∧c.1=58 then
    (if e.1=125∧r=[]then some [mkRM k v]else if e.1=44 then(T r).map (mkRM k v::·)else none)else none
 |_=>none
def objT (ps:List Pc):Option (List RM):=match ps with
 | []=>none
 |p::r=>if p.1=123 then(if r.map (·.1)=[125]then some []else T r)else none
def zWC (k:Nat):Int:=if k=115 then 3 else if k=105 then 1 else if k=110 then 0 else 2
def znV (m:RM):Mem:=(m.1,zWC m.2.1,(if m.2.1=116 then 1 else m.2.2.2),m.2.2.1)
def allD (l:List Nat):Prop:=∀c∈l,48≤c∧c≤57
def dval:Nat→List Nat→Nat
 |acc,[]=>acc
 |acc,c::t=>dval (acc*10+(c-48)) t
theorem zEA (b:List Nat):∀a,a≤dval a b:=by
 induction b with
 |nil=>intro a;exact Nat.le_refl _
 |cons c t ih=>intro a;have:=ih (a*10+(c-48));unfold dval;omega
theorem zzm (d:List Nat):∀a p:Nat,p=10 ^ d.length→a*p≤dval a d:=by
 induction d with
 |nil=>intro a p b;rw[b];show a*1≤a;omega
 |cons c t ih=>
   intro a p b;have e:=ih (a*10+(c-48)) _ rfl;rw[List.length_cons,Nat.pow_succ]at b;show a*p≤dval (a*10+(c-48)) t;refine Nat.le_trans ?_ e;generalize 10 ^ t.length=q at*;rw[b,Nat.mul_comm q 10,←Nat.mul_assoc];exact Nat.mul_le_mul_right q (Nat.le_add_right _ _)
theorem z20 {c:Nat}(h:c<256):(UInt8.ofNat c).toNat=c:=by simp;omega
theorem pum (M:Nat)(l:M=18446744073709551615)(b:List Nat):∀a,allD b→a≤M→
 Lib.parseUintM M a (zU1 b)=if dval a b≤M then .ok (dval a b)else .range:=by
 induction b with
 |nil=>intro a _ h;show(Lib.NumEnd.ok a:Lib.NumEnd Nat)=if a≤M then .ok a else .range;rw[if_pos h]
 |cons c t ih=>
   intro a d m;have g:=d c (by simp);have i:allD t:=fun x hx=>d x (by simp[hx]);have k:=zEA t (a*10+(c-48));have e:Lib.parseUintM M a (zU1 (c::t))=if 1844674407370955162≤a then .range else if M<a*10+(c-48)then .range else Lib.parseUintM M (a*10+(c-48)) (zU1 t):=by
    show Lib.parseUintM M a (UInt8.ofNat c::zU1 t)=_;rw[Lib.parseUintM,z20 (by omega),if_pos g]
   have j:dval a (c::t)=dval (a*10+(c-48)) t:=rfl;rw[e,j];by_cases h1:1844674407370955162≤a
   ·rw[if_pos h1,if_neg (by omega)]
   ·rw[if_neg h1];by_cases h2:M<a*10+(c-48)
    ·rw[if_pos h2,if_neg (by omega)]
    ·rw[if_neg h2];exact ih _ i (by omega)
theorem z27 {d:Int}(b:0≤d)(e:d≤9)(a:Int):(-a<(-9223372036854775808+d).tdiv 10)↔9223372036854775808<10*a+d:=by
 have:d=0∨d=1∨d=2∨d=3∨d=4∨d=5∨d=6∨d=7∨d=8∨d=9:=by omega
 rcases this with rfl|rfl|rfl|rfl|rfl|rfl|rfl|rfl|rfl|rfl
 all_goals first
  | (rw[show Int.tdiv (-9223372036854775808+0) 10= -922337203685477580 by decide];omega)
  | (rw[show Int.tdiv (-9223372036854775808+1) 10= -922337203685477580 by decide];omega)
  | (rw[show Int.tdiv (-9223372036854775808+2) 10= -922337203685477580 by decide];omega)
  | (rw[show Int.tdiv (-9223372036854775808+3) 10= -922337203685477580 by decide];omega)
  | (rw[show Int.tdiv (-9223372036854775808+4) 10= -922337203685477580 by decide];omega)
  | (rw[show Int.tdiv (-9223372036854775808+5) 10= -922337203685477580 by decide];omega)
  | (rw[show Int.tdiv (-9223372036854775808+6) 10= -922337203685477580 by decide];omega)
  | (rw[show Int.tdiv (-9223372036854775808+7) 10= -922337203685477580 by decide];omega)
  | (rw[show Int.tdiv (-9223372036854775808+8) 10= -922337203685477580 by decide];omega)
  | (rw[show Int.tdiv (-9223372036854775808+9) 10= -922337203685477579 by decide];omega)
theorem wrun (L:Nat)(l:L=9223372036854775808)(b:List Nat):∀a:Nat,allD b→a≤L→
 zlt (-(a:Int)) b=if dval a b≤L then some (-(dval a b:Int))else none:=by
 induction b with
 |nil=>intro a _ h;show some (-(a:Int))=if a≤L then some (-(a:Int))else none;rw[if_pos h]
 |cons c t ih=>
   intro a g n;have m:=g c (by simp);have i:allD t:=fun x hx=>g x (by simp[hx]);have k:=zEA t (a*10+(c-48));have e:=z27 (d:=(c:Int)-48) (by omega) (by omega) a;have j:dval a (c::t)=dval (a*10+(c-48)) t:=rfl;rw[j,zlt,if_neg (by omega)];by_cases hx:9223372036854775808<10*(a:Int)+((c:Int)-48)
   ·rw[if_pos (e.2 hx),if_neg (by omega)]
   ·rw[if_neg (fun h=>hx (e.1 h)),show 10* -(a:Int)-((c:Int)-48)= -(((a*10+(c-48):Nat)):Int) by omega];exact ih _ i (by omega)
theorem zHL (b:List Nat):∀(n x:Int),zlt n b=some x→allD b:=by
 induction b with
 |nil=>intro n x _ c d;cases d
 |cons c t ih=>
   intro n x h;unfold zlt at h;split at h
   ·cases h
   ·split at h
    ·cases h
    ·intro y a;rcases List.mem_cons.1 a with rfl|a
     ·omega
     ·exact ih _ _ h y a
theorem zn2 (b:Bool){t:List Nat}(h:¬allD t):(z8T b t).2=false:=by
 unfold z8T;split
 ·rfl
 ·cases hx:zlt 0 t with
  |none=>rfl
  |some n=>exact absurd (zHL _ _ _ hx) h
def zqj (ds:List Nat):Prop:=allD ds∧(1<ds.length→ds.headD 0≠48)
theorem zCC {a:List Nat}(h:zqj a)(b:19<a.length):9999999999999999999<dval 0 a:=by
 cases a with
 |nil=>simp at b
 |cons c t=>
   have k:=h.1 c (by simp);have d:=h.2 (by omega);simp at d;have j:=zzm t (0*10+(c-48)) _ rfl;have g:10 ^ 19≤10 ^ t.length:=Nat.pow_le_pow_right (by omega) (by simp at b;omega);show 9999999999999999999<dval (0*10+(c-48)) t;have e:1≤0*10+(c-48):=(by omega);generalize 10 ^ t.length=q at*;have i:=Nat.le_trans (Nat.mul_le_mul e g) j;rw[Nat.one_mul,show(10:Nat) ^ 19=10000000000000000000 by decide]at i;omega
theorem zfy (b:Bool){a:List Nat}(h:zqj a)(e:a≠[]):
 z8T b a=if dval 0 a≤9223372036854775808 then(if b then(-(dval 0 a:Int),true)else(if dval 0 a=9223372036854775808 then((-9223372036854775808:Int),false)else((dval 0 a:Int),true)))else(0,false):=by
 have g:0<a.length:=List.length_pos_iff.2 e;unfold z8T;by_cases hl:19<a.length
 ·have:=zCC h hl;rw[if_pos (by omega),if_neg (by omega)]
 ·rw[if_neg (by rintro(d|d|d);omega;omega;exact h.2 d.1 d.2)];have:=wrun _ rfl a 0 h.1 (by omega);rw[show(-((0:Nat):Int))=0 by rfl]at this;rw[this];by_cases hv:dval 0 a≤9223372036854775808
  ·rw[if_pos hv,if_pos hv];dsimp only;cases b with
   |true=>simp
   |false=>
     simp only [Bool.false_eq_true,if_false];by_cases he:dval 0 a=9223372036854775808
     ·rw[if_pos he,he];simp
     ·rw[if_neg he,if_neg (by omega)];simp;omega
  ·rw[if_neg hv,if_neg hv]
def sgnd (neg:Bool)(ds:List Nat):List Nat:=if neg then 45::ds else ds
theorem z8f (neg:Bool){a:List Nat}(h:zqj a):
 (∃v,Lib.parseIntB 64 (zU1 (sgnd neg a))=.ok v∧zyu (sgnd neg a)=(v,true))∨
 ((∀v,Lib.parseIntB 64 (zU1 (sgnd neg a))≠.ok v)∧(zyu (sgnd neg a)).2=false):=by
 have i:(2:Nat) ^ 64-1=18446744073709551615:=by decide
 have b:(2:Nat) ^ (64-1)=9223372036854775808:=by decide
 cases neg with
 |true=>
   show(∃v,Lib.parseIntB 64 (zU1 (45::a))=.ok v∧zyu (45::a)=(v,true))∨((∀v,Lib.parseIntB 64 (zU1 (45::a))≠.ok v)∧(zyu (45::a)).2=false);have d:zyu (45::a)=z8T true a:=rfl;have g:Lib.parseIntB 64 (zU1 (45::a))=match Lib.parseUintB 64 (zU1 a)with
    |.syntax=>.syntax
    |.range=>.range
    |.ok u=>if 9223372036854775808<u then .range else .ok (-(u:Int)):=by
    show Lib.parseIntB 64 (UInt8.ofNat 45::zU1 a)=_;unfold Lib.parseIntB;rw[b];simp only [show(UInt8.ofNat 45).toNat=45 from rfl];simp;cases Lib.parseUintB 64 (zU1 a)<;>rfl
   rw[d,g];by_cases hne:a=[]
   ·subst hne;right;exact⟨by intro v;simp[zU1,Lib.parseUintB],rfl⟩
   ·have e:Lib.parseUintB 64 (zU1 a)=if dval 0 a≤18446744073709551615 then .ok (dval 0 a)else .range:=by
     unfold Lib.parseUintB;rw[if_neg (by simpa [zU1]using hne),i];exact pum _ rfl a 0 h.1 (by omega)
    rw[e,zfy true h hne];by_cases hv:dval 0 a≤9223372036854775808
    ·left;refine⟨-(dval 0 a:Int),?_,?_⟩
     ·rw[if_pos (by omega)];dsimp only;rw[if_neg (by omega)]
     ·rw[if_pos hv];rfl
    ·right;refine⟨?_,by rw[if_neg hv]⟩;intro v;by_cases hx:dval 0 a≤18446744073709551615
     ·rw[if_pos hx];dsimp only;rw[if_pos (by omega)];intro h;cases h
     ·rw[if_neg hx];intro h;cases h
 |false=>
   show(∃v,Lib.parseIntB 64 (zU1 a)=.ok v∧zyu a=(v,true))∨((∀v,Lib.parseIntB 64 (zU1 a)≠.ok v)∧(zyu a).2=false);cases a with
   |nil=>right;exact⟨by intro v;simp[zU1,Lib.parseIntB],rfl⟩
   |cons c t=>
     have k:=h.1 c (by simp);have d:zyu (c::t)=z8T false (c::t):=(by unfold zyu;rw[if_neg (by simp;omega)]);have g:Lib.parseIntB 64 (zU1 (c::t))=match Lib.parseUintB 64 (zU1 (c::t))with
      |.syntax=>.syntax
      |.range=>.range
      |.ok u=>if 9223372036854775808≤u then .range else .ok (u:Int):=by
      show Lib.parseIntB 64 (UInt8.ofNat c::zU1 t)=_;unfold Lib.parseIntB;rw[b];simp only [z20 (show c<256 by omega)];rw[if_neg (by omega)];have j:¬c=45:=(by omega);simp only [j,not_false_eq_true,true_and,false_and,if_false];rfl
     rw[d,g];have e:Lib.parseUintB 64 (zU1 (c::t))=if dval 0 (c::t)≤18446744073709551615 then .ok (dval 0 (c::t))else .range:=by
      unfold Lib.parseUintB;rw[if_neg (by simp[zU1]),i];exact pum _ rfl _ 0 h.1 (by omega)
     rw[e,zfy false h (by simp)];by_cases hv:dval 0 (c::t)<9223372036854775808
     ·left;refine⟨(dval 0 (c::t):Int),?_,?_⟩
      ·rw[if_pos (by omega)];dsimp only;rw[if_neg (by omega)]
      ·rw[if_pos (by omega)];simp only [Bool.false_eq_true,if_false];rw[if_neg (by omega)]
     ·right;refine⟨?_,?_⟩
      ·intro v;by_cases hx:dval 0 (c::t)≤18446744073709551615
       ·rw[if_pos hx];dsimp only;rw[if_pos (by omega)];intro h;cases h
       ·rw[if_neg hx];intro h;cases h
      ·by_cases he:dval 0 (c::t)=9223372036854775808
       ·rw[if_pos (by omega),if_neg (by simp),if_pos he]
       ·rw[if_neg (by omega)]
theorem zda {c:Nat}(h:c<128):Utf8.encode (Int.ofNat c)=⟨#[UInt8.ofNat c]⟩:=by
 have a:Utf8.valid (Int.ofNat c)=true:=by unfold Utf8.valid;simp;omega
 unfold Utf8.encode;rw[a];simp[h]
theorem zGz (l:List Nat)(h:∀c∈l,c<128):(runesBytes (l.map Int.ofNat)).data.toList=zU1 l:=by
 have key:∀(l:List Nat) (b:ByteArray),(∀c∈l,c<128)→((l.map Int.ofNat).foldl (fun r n=>r++Utf8.encode n) b).data.toList=b.data.toList++zU1 l:=by
  intro l
  induction l with
  |nil=>intro b _;simp[zU1]
  |cons c t ih=>
    intro b h;rw[List.map_cons,List.foldl_cons,ih _ (fun x hx=>h x (by simp[hx])),zda (h c (by simp))];simp[zU1]
 have:=key l ByteArray.empty h;unfold runesBytes;rw[this];rfl
theorem zRu (l:List Nat)(h:∀c∈l,c<128):lets ⟨(zU1 l).toArray⟩=l:=by
 unfold lets zU1;simp only
 induction l with
 |nil=>rfl
 |cons c t ih=>
   simp only [List.map_cons];rw[ih (fun x hx=>h x (by simp[hx])),z20 (by have:=h c (by simp);omega)]
theorem zXU {a b:List Nat}(e:∀c∈a,c<128)(d:∀c∈b,c<128)(h:zU1 a=zU1 b):a=b:=by
 rw[←zRu a e,←zRu b d,h]
theorem zrb (w:List Nat)(h:∀c∈w,c<128):valP (119,zU1 w)=
 if w=z60 then(116,[],0,true)else if w=z0R then(102,[],0,true)else if w=zrC then(110,[],0,true)else(105,[],(zyu w).1,(zyu w).2):=by
 have g:∀(W:List Nat),(∀c∈W,c<128)→(((⟨(zU1 w).toArray⟩:ByteArray).toList==zU1 W)=true↔w=W):=by
  intro W i;rw[ByteArray.toList_eq];simp only [beq_iff_eq];exact⟨fun e=>zXU h i e,fun e=>by rw[e]⟩
 unfold valP zMi;dsimp only;rw[if_neg (by decide),if_neg (by decide)];rw[zRu w h];have a:=g z60 (by decide);have d:=g z0R (by decide);have b:=g zrC (by decide);rw[show zU1 z60=[116,114,117,101] by rfl]at a;rw[show zU1 z0R=[102,97,108,115,101] by rfl]at d;rw[show zU1 zrC=[110,117,108,108] by rfl]at b;by_cases c1:w=z60
 ·rw[if_pos (a.2 c1),if_pos c1]
 ·rw[if_neg (fun e=>c1 (a.1 e)),if_neg c1];by_cases c2:w=z0R
  ·rw[if_pos (d.2 c2),if_pos c2]
  ·rw[if_neg (fun e=>c2 (d.1 e)),if_neg c2];by_cases c3:w=zrC
   ·rw[if_pos (b.2 c3),if_pos c3]
   ·rw[if_neg (fun e=>c3 (b.1 e)),if_neg c3]
theorem zk3 {c:Nat}(h:zOT c=true):c<128:=by
 apply Decidable.byContradiction;intro a;rw[zlf (by omega)]at h;cases h
theorem z9d (l:List Nat):∀c∈l.take (wordLen l),zOT c=true:=by
 induction l with
 |nil=>intro c a;simp at a
 |cons x t ih=>
   by_cases hx:zOT x=true
   ·rw[zdc hx,List.take_succ_cons];intro c a;rcases List.mem_cons.1 a with rfl|a
    ·exact hx
    ·exact ih c a
   ·have:wordLen (x::t)=0:=(by unfold wordLen;rw[if_neg hx]);rw[this];intro c a;simp at a
theorem zFX (w u:List Nat)(h:∀c∈w,zOT c=true):wordLen (w++u)=w.length+wordLen u:=by
 induction w with
 |nil=>simp
 |cons c t ih=>
   rw[List.cons_append,zdc (h c (by simp)),ih (fun x hx=>h x (by simp[hx]))];simp;omega
theorem zcj {u:List Nat}(h:wordLen u≠0):∃d t,u=d::t∧zOT d=true:=by
 cases u with
 |nil=>exact absurd rfl h
 |cons d t=>
   refine⟨d,t,rfl,?_⟩;cases hd:zOT d with
   |true=>rfl
   |false=>exact absurd (by unfold wordLen;rw[hd];rfl) h
def zrI (r:List Nat):Prop:=
 (∃x r4 p,zFD r=some (x,r4)∧r4.length<r.length∧lex r=(lex r4).map (p::·)∧(valP p).2.2.2=true∧x=(zWC (valP p).1,(if(valP p).1=116 then 1 else(valP p).2.2.1),(valP p).2.1))∨
 ((∀p ps,lex r=some (p::ps)→(valP p).2.2.2=false)∧(zFD r=none∨∃x c t,zFD r=some (x,c::t)∧zOT c=true))
theorem zAu {o:Option (List Pc)}{q p:Pc}{ps:List Pc}(h:o.map (q::·)=some (p::ps)):q=p:=by
 cases o with
 |none=>cases h
 |some l=>simp at h;exact h.1
theorem zGJ (W u:List Nat):eats W (W++u)=true:=by
 induction W with
 |nil=>rfl
 |cons c t ih=>simp[eats,ih]
theorem znf {W:List Nat}:∀ {r:List Nat},eats W r=true→r=W++r.drop W.length:=by
 induction W with
 |nil=>intro r _;simp
 |cons c t ih=>
   intro r h;cases r with
   |nil=>simp[eats]at h
   |cons d u=>
     simp[eats]at h;rw[h.1];simp;exact ih h.2
theorem zoB (W W':List Nat) (c:Nat) (t:List Nat) (x:Int×Int×List UInt8) (s:W=c::W') (k:∀d∈W,zOT d=true)
 (i:zFD (c::t)=if eats W (c::t)then some (x,(c::t).drop W.length)else none)
 (b:(valP (119,zU1 W)).2.2.2=true∧x=(zWC (valP (119,zU1 W)).1,(if(valP (119,zU1 W)).1=116 then 1 else(valP (119,zU1 W)).2.2.1),(valP (119,zU1 W)).2.1))
 (h:∀w':List Nat,(∀d∈w',zOT d=true)→c::w'≠W→(valP (119,zU1 (c::w'))).2.2.2=false):zrI (c::t):=by
 have q:zOT c=true:=k c (by rw[s];simp);have g:=z9o (t:=t) q;have j:=z9d (c::t);have v:=zON (c::t);have n:=zdc (t:=t) q;by_cases he:(c::t).take (wordLen (c::t))=W
 ·have a:wordLen (c::t)=W.length:=by rw[←he,List.length_take];omega
  have e:c::t=W++(c::t).drop W.length:=by
   rw[←a,←he];simp
  left;refine⟨x,(c::t).drop W.length,(119,zU1 W),?_,?_,?_,b.1,b.2⟩
  ·rw[i];rw[show eats W (c::t)=true by rw[e];exact zGJ _ _];rfl
  ·rw[List.length_drop,←a];simp only [List.length_cons];omega
  ·rw[g,he,a]
 ·right;refine⟨fun p ps hp=>?_,?_⟩
  ·rw[g]at hp;have:=zAu hp;rw[←this];rw[n,List.take_succ_cons]at he j⊢;exact h _ (fun d l=>j d (by simp[l])) he
  ·rw[i];cases hx:eats W (c::t)with
   |false=>left;rfl
   |true=>
     right;have e:=znf hx;have o:wordLen ((c::t).drop W.length)≠0:=by
      intro r;apply he;have:=zFX W ((c::t).drop W.length) k;rw[←e,r]at this;rw[this]
      conv=>lhs;rw[e]
      simp
     obtain⟨d,u,l,m⟩:=zcj o;exact⟨x,d,u,by rw[l];rfl,m⟩
theorem zY7 {c:Nat}{t:List Nat}(d:c≠45)(a:digB (c:Int)=false):intP (c::t)=none:=by
 have g:c≠48:=by intro e;subst e;exact absurd a (by decide)
 have e:zDE (c::t)=c::t:=by
  unfold zDE;dsimp only;have b:(if zEH (c::t)=45 then(c::t).tail else c::t)=c::t:=if_neg (by show ¬((c:Int)=45);omega);rw[b,if_neg (by show ¬((c:Int)=48);omega),zva,if_neg (by rw[a];simp)]
 unfold intP zcA;rw[e,Nat.sub_self,List.take_zero];rfl
theorem zQt (m:List Nat):∃a,m=a++zva m∧allD a∧(∀d u,zva m=d::u→digB (d:Int)=false):=by
 induction m with
 |nil=>exact⟨[],rfl,fun c hc=>(by cases hc),fun d u h=>(by cases h)⟩
 |cons c t ih=>
   unfold zva;cases hd:digB (c:Int)with
   |true=>
     obtain⟨a,e,i,g⟩:=ih;rw[if_pos rfl];refine⟨c::a,by rw[List.cons_append,←e],?_,g⟩;intro x b;rcases List.mem_cons.1 b with rfl|b
     ·unfold digB at hd;simp at hd;omega
     ·exact i x b
   |false=>
     exact⟨[],by simp,fun c hc=>(by cases hc),fun d u h=>(by simp at h;rw[←h.1];exact hd)⟩
theorem zzq (_neg:Bool)(m:List Nat):∃a rest,m=a++rest∧zqj a∧(if zEH m=48 then m.tail else zva m)=rest∧(a=[48]∨∀d u,rest=d::u→digB (d:Int)=false):=by
 by_cases h:zEH m=48
 ·cases m with
  |nil=>cases h
  |cons c t=>
    have b:c=48:=(by have:(c:Int)=48:=h;omega);subst b;exact⟨[48],t,rfl,⟨fun c b=>(by simp at b;omega),fun h=>(by simp at h)⟩,by rw[if_pos h];rfl,Or.inl rfl⟩
 ·rw[if_neg h];obtain⟨a,e,g,i⟩:=zQt m;refine⟨a,zva m,e,⟨g,fun _ he=>?_⟩,rfl,Or.inr i⟩;cases a with
  |nil=>simp at he
  |cons c t=>
    simp at he;subst he;rw[e]at h;exact h rfl
theorem zsQ {c:Nat}(h:48≤c∧c≤57):zOT c=true:=by unfold zOT;simp;omega
theorem zD9 {neg:Bool}{b:List Nat}(h:allD b):∀c∈sgnd neg b,zOT c=true:=by
 intro c a;cases neg with
 |false=>exact zsQ (h c a)
 |true=>
   rcases List.mem_cons.1 a with rfl|a
   ·rfl
   ·exact zsQ (h c a)
theorem zJs (neg:Bool){a e:List Nat}{d:Nat}{u:List Nat}(k:zqj a)(h:sgnd neg a≠[])(i:e=d::u)(g:a=[48]∨digB (d:Int)=false):(zyu (sgnd neg a++e)).2=false:=by
 have key:∀b,(z8T b (a++e)).2=false:=by
  intro b;rcases g with rfl|g
  ·unfold z8T;rw[if_pos (by subst i;right;right;simp)]
  ·apply zn2;intro j;have:=j d (by subst i;simp);unfold digB at g;simp at g;omega
 cases neg with
 |true=>exact key true
 |false=>
   cases a with
   |nil=>exact absurd rfl h
   |cons c t=>
     have l:=k.1 c (by simp);show(zyu (c::t++e)).2=false;unfold zyu;rw[if_neg (by simp;omega)];exact key false
theorem zzh (c:Nat)(t:List Nat)(L:c=45∨(48≤c∧c≤57)):zrI (c::t):=by
 have M:zOT c=true:=by rcases L with rfl|L;rfl;exact zsQ L
 have b:=z9o (t:=t) M;have E:zFD (c::t)=match intP (c::t)with|some (n,r)=>some ((1,n,[]),r)|none=>none:=by
  unfold zFD;have:zEH (c::t)=(c:Int):=rfl;rw[this,if_neg (by simp;omega),if_neg (by simp;omega),if_neg (by simp;omega),if_neg (by simp;omega)];cases intP (c::t)<;>rfl
 obtain⟨neg,a,rest,g,m,j,P,l⟩:∃(neg:Bool) (a rest:List Nat),c::t=sgnd neg a++rest∧zqj a∧zDE (c::t)=rest∧(a=[48]∨∀d u,rest=d::u→digB (d:Int)=false)∧sgnd neg a≠[]:=by
  by_cases h45:c=45
  ·subst h45;obtain⟨a,rest,q,F,G,i⟩:=zzq true t;refine⟨true,a,rest,by rw[q];rfl,F,?_,i,by simp[sgnd]⟩;rw[←G];unfold zDE;dsimp only;rfl
  ·obtain⟨a,rest,q,F,G,i⟩:=zzq false (c::t);refine⟨false,a,rest,q,F,?_,i,?_⟩
   ·rw[←G];have U:(if zEH (c::t)=45 then(c::t).tail else c::t)=c::t:=if_neg (by show ¬((c:Int)=45);omega);unfold zDE;dsimp only;rw[U]
   ·intro H;have H:a=[]:=H;subst H;rcases i with i|i
    ·cases i
    ·have:=i c t q.symm;unfold digB at this;simp at this;omega
 have C:zcA (c::t)=sgnd neg a:=by
  unfold zcA;rw[j]
  conv=>lhs;rw[g]
  simp
 have J:∀x∈sgnd neg a,zOT x=true:=zD9 m.1;have w:wordLen (c::t)=(sgnd neg a).length+wordLen rest:=by rw[g];exact zFX _ _ J
 have S:0<(sgnd neg a).length:=List.length_pos_iff.2 l;have D:intP (c::t)=match Lib.parseIntB 64 (zU1 (sgnd neg a))with|.ok v=>some (v,rest)|_=>none:=by
  unfold intP;rw[C,j,zGz _ (fun x hx=>zk3 (J x hx))];cases Lib.parseIntB 64 (zU1 (sgnd neg a))<;>rfl
 have O:(c::t).drop (wordLen (c::t))=rest.drop (wordLen rest):=by
  rw[w];conv=>lhs;rw[g]
  rw[List.drop_append];simp
 have N:(c::t).take (wordLen (c::t))=sgnd neg a++rest.take (wordLen rest):=by
  rw[w];conv=>lhs;rw[g]
  rw[List.take_append,List.take_of_length_le (by omega)];simp
 rw[O,N]at b;have B:∀u:List Nat,(∀x∈u,zOT x=true)→valP (119,zU1 (sgnd neg a++u))=(105,[],(zyu (sgnd neg a++u)).1,(zyu (sgnd neg a++u)).2):=by
  intro u R;rw[zrb _ (fun x hx=>zk3 (by rcases List.mem_append.1 hx with hx|hx;exact J x hx;exact R x hx))];have K:∀y Y,sgnd neg a++u=y::Y→y=c:=by
   intro y Y e;cases hq:sgnd neg a with
   |nil=>exact absurd hq l
   |cons z Z=>rw[hq]at g e;simp at g e;rw[←e.1,g.1]
  rw[if_neg (fun e=>by have:=K _ _ e;omega),if_neg (fun e=>by have:=K _ _ e;omega),if_neg (fun e=>by have:=K _ _ e;omega)]
 by_cases hz:wordLen rest=0
 ·rw[hz,List.take_zero,List.append_nil,List.drop_zero]at b;have k:=B [] (fun x hx=>by cases hx);rw[List.append_nil]at k;rcases z8f neg m with ⟨v,I,o⟩|⟨I,o⟩
  ·left;refine⟨(1,v,[]),rest,(119,zU1 (sgnd neg a)),?_,?_,b,?_,?_⟩
   ·rw[E,D,I]
   ·have:=congrArg List.length g;rw[zJ]at this;omega
   ·rw[k,o]
   ·rw[k,o];rfl
  ·right;refine⟨fun p ps hp=>?_,Or.inl ?_⟩
   ·rw[b]at hp;rw[←zAu hp,k];exact o
   ·rw[E,D];cases hq:Lib.parseIntB 64 (zU1 (sgnd neg a))with
    |ok v=>exact absurd hq (I v)
    |«syntax»=>rfl
    |range=>rfl
 ·right;obtain⟨d,u,s,A⟩:=zcj hz;refine⟨fun p ps hp=>?_,?_⟩
  ·rw[b]at hp;rw[←zAu hp,B _ (z9d rest)];have Q:wordLen rest=wordLen u+1:=(by rw[s];exact zdc A);refine zJs neg (d:=d) (u:=u.take (wordLen u)) m l (by rw[Q,s,List.take_succ_cons]) ?_;rcases P with h|h
   ·exact Or.inl h
   ·exact Or.inr (h d u s)
  ·rw[E,D];cases hq:Lib.parseIntB 64 (zU1 (sgnd neg a))with
   |ok v=>right;exact⟨(1,v,[]),d,u,by rw[s],A⟩
   |«syntax»=>left;rfl
   |range=>left;rfl
theorem zLg {c:Nat}(w:List Nat)(a:c≠45)(b:digB (c:Int)=false):(zyu (c::w)).2=false:=by
 unfold zyu;rw[if_neg (by simpa using a)];apply zn2;intro d;have:=d c (by simp);unfold digB at b;simp at b;omega
theorem zwl (r:List Nat)(l:zek r=r):zrI r:=by
 cases r with
 |nil=>
   right;exact⟨fun p ps h=>(by simp[zDC]at h),Or.inl rfl⟩
 |cons c t=>
   have b:zEH (c::t)=(c:Int):=rfl;have m:zEz c=false:=by
    rw[←zby];cases hx:zE1 c with
    |false=>rfl
    |true=>
      rw[zek,if_pos hx]at l;have:=congrArg List.length l;have:=zH7 t;simp at *;omega
   by_cases h34:c=34
   ·subst h34;have g:zFD (34::t)=match zoOb t with|some (v,r)=>some ((3,0,v),r)|none=>none:=rfl
    cases hx:zoOb t with
    |none=>
      right;exact⟨fun p ps h=>(by rw[zjK,hx]at h;cases h),Or.inl (by rw[g,hx])⟩
    |some q=>
      obtain⟨v,r⟩:=q;have:=zZo hx;left;exact⟨(3,0,v),r,(34,v),by rw[g,hx],by simp;omega,by rw[zjK,hx],rfl,rfl⟩
   ·by_cases h116:c=116
    ·subst h116;refine zoB z60 [114,117,101] 116 t (2,1,[]) rfl (by decide) ?_ ⟨by rw[zrb _ (by decide)];decide,by rw[zrb _ (by decide)];decide⟩ ?_
     ·unfold zFD;rw[b,if_neg (by decide),if_pos (by decide)];rfl
     ·intro w' a d;rw[zrb _ (fun x hx=>zk3 (by rcases List.mem_cons.1 hx with rfl|hx;rfl;exact a x hx)),if_neg d,if_neg (by unfold z0R;simp),if_neg (by unfold zrC;simp)];exact zLg w' (by decide) (by decide)
    ·by_cases h102:c=102
     ·subst h102;refine zoB z0R [97,108,115,101] 102 t (2,0,[]) rfl (by decide) ?_ ⟨by rw[zrb _ (by decide)];decide,by rw[zrb _ (by decide)];decide⟩ ?_
      ·unfold zFD;rw[b,if_neg (by decide),if_neg (by decide),if_pos (by decide)];rfl
      ·intro w' a d;rw[zrb _ (fun x hx=>zk3 (by rcases List.mem_cons.1 hx with rfl|hx;rfl;exact a x hx)),if_neg (by unfold z60;simp),if_neg d,if_neg (by unfold zrC;simp)];exact zLg w' (by decide) (by decide)
     ·by_cases h110:c=110
      ·subst h110;refine zoB zrC [117,108,108] 110 t (0,0,[]) rfl (by decide) ?_ ⟨by rw[zrb _ (by decide)];decide,by rw[zrb _ (by decide)];decide⟩ ?_
       ·unfold zFD;rw[b,if_neg (by decide),if_neg (by decide),if_neg (by decide),if_pos (by decide)];rfl
       ·intro w' a d;rw[zrb _ (fun x hx=>zk3 (by rcases List.mem_cons.1 hx with rfl|hx;rfl;exact a x hx)),if_neg (by unfold z60;simp),if_neg (by unfold z0R;simp),if_neg d];exact zLg w' (by decide) (by decide)
      ·by_cases hnum:c=45∨(48≤c∧c≤57)
       ·exact zzh c t hnum
       ·have i:c≠45:=fun e=>hnum (Or.inl e);have k:digB (c:Int)=false:=(by unfold digB;simp;omega);have g:zFD (c::t)=none:=by
         unfold zFD;rw[b,if_neg (by simp;omega),if_neg (by simp;omega),if_neg (by simp;omega),if_neg (by simp;omega),zY7 i k]
        right;refine⟨fun p ps hp=>?_,Or.inl g⟩;by_cases hm:z7R c=true
        ·rw[zzX hm]at hp;rw[←zAu hp];unfold valP zMi;dsimp only;rw[if_neg h34,if_pos (by unfold z7R at hm;simp at hm;omega)]
        ·by_cases hw:zOT c=true
         ·rw[z9o hw]at hp;have j:=z9d (c::t);rw[←zAu hp];rw[zdc hw,List.take_succ_cons]at j⊢;rw[zrb _ (fun x hx=>zk3 (j x hx)),if_neg (by unfold z60;simp;omega),if_neg (by unfold z0R;simp;omega),if_neg (by unfold zrC;simp;omega)];exact zLg _ i k
         ·rw[zEw m (by simpa using hm) h34 (by simpa using hw)]at hp;cases hp
def zgu (o:Option (List Mem×List Nat)):Option (List Mem):=match o with
 |none=>none
 |some (ms,r)=>if zek r=[]then some ms else none
theorem zcK {p:Pc}{ps:List Pc}(h:p.1≠34):T (p::ps)=none:=by
 unfold T;split
 ·rename_i k c v e r he;injection he with h1 h2;subst h1;rw[if_neg (fun hh=>h hh.2.1)]
 ·rfl
theorem zmQ {k p:Pc}{ps:List Pc}(h:p.1≠58):T (k::p::ps)=none:=by
 unfold T;split
 ·rename_i k' c v e r he;injection he with h1 h2;injection h2 with h2 h3;subst h2;rw[if_neg (fun hh=>h hh.2.2)]
 ·rfl
theorem z00 {k c p:Pc}{ps:List Pc}(h:(valP p).2.2.2=false):T (k::c::p::ps)=none:=by
 unfold T;split
 ·rename_i k' c' v e r he;injection he with h1 h2;injection h2 with h2 h3;injection h3 with h3 h4;subst h3;rw[if_neg (fun hh=>by rw[h]at hh;cases hh.1)]
 ·rfl
theorem zmo (n:Nat):∀(f:Nat) (m:List Mem) (l:List Nat),l.length≤n→l.length<f→zek l=l→
 zgu (zRf f m l)=((lex l).bind T).map (fun ms=>m++ms.map znV):=by
 induction n with
 |zero=>
   intro f m l h S P;have:l=[]:=List.length_eq_zero_iff.1 (by omega);subst this;obtain⟨f,rfl⟩:∃g,f=g+1:=⟨f-1,by omega⟩;rfl
 |succ n ih=>
   intro f m l Y S P;obtain⟨f,rfl⟩:∃g,f=g+1:=⟨f-1,by omega⟩;by_cases h34:zEH l=34
   ·obtain⟨t,rfl⟩:∃t,l=34::t:=by
     cases l with
     |nil=>cases h34
     |cons c t=>have:(c:Int)=34:=h34;exact⟨t,by rw[show c=34 by omega]⟩
    have H:zhn (34::t)=zoOb t:=rfl;cases hx:zoOb t with
    |none=>
      have d:zcL (34::t)=none:=(by unfold zcL;rw[H,hx]);rw[zRf,d,zjK,hx];rfl
    |some q=>
      obtain⟨a,z⟩:=q;have Z:=zZo hx;have aa:=zH7 z;have o:lex (34::t)=(lex (zek z)).map ((34,a)::·):=(by rw[zjK,hx,zge]);have R:=zQj z;have F:zcL (34::t)=if(zEH (zek z)==58)then(match zFD (zek (zek z).tail)with
       |none=>none
       |some (v,k)=>some ((a,v),zek k))else none:=by unfold zcL;rw[H,hx];rfl
      generalize zek z=r2 at*;by_cases h58:zEH r2=58
      ·obtain⟨w,rfl⟩:∃t,r2=58::t:=by
        cases r2 with
        |nil=>cases h58
        |cons c t=>have:(c:Int)=58:=h58;exact⟨t,by rw[show c=58 by omega]⟩
       have ad:=zH7 w;have N:=zQj w;have r:lex (58::w)=(lex (zek w)).map ((58,[])::·):=(by rw[zzX (by decide),zge]);have A:zcL (34::t)=(match zFD (zek w)with|none=>none|some (v,k)=>some ((a,v),zek k)):=by
        rw[F,if_pos (by rfl)];rfl
       generalize zek w=r3 at*;rcases zwl r3 N with ⟨x,k,p,L,s,E,D,V⟩|⟨L,s⟩
       ·have ab:=zH7 k;have Q:=zQj k;have d:zcL (34::t)=some ((a,x),zek k):=(by rw[A,L]);have I:(a,x)=znV (mkRM (34,a) p):=(by rw[V];rfl);rw[←zge k]at E;rw[zRf,d,o,r,E,I];generalize zek k=r5 at*;simp only [List.length_cons]at Y S;dsimp only;by_cases h125:zEH r5=125
        ·obtain⟨b,rfl⟩:∃t,r5=125::t:=by
          cases r5 with
          |nil=>cases h125
          |cons c t=>have:(c:Int)=125:=h125;exact⟨t,by rw[show c=125 by omega]⟩
         rw[if_pos (by rfl),zzX (by decide)];have B:=zJl b;show(if zek b=[]then some (m++[znV (mkRM (34,a) p)])else none)=_;by_cases he:zek b=[]
         ·rw[if_pos he,B.2 he];simp[T,D]
         ·rw[if_neg he];cases hl5:lex b with
          |none=>rfl
          |some ps=>
            have M:ps≠[]:=fun e=>he (B.1 (by rw[hl5,e]));simp[T,D,M]
        ·by_cases h44:zEH r5=44
         ·obtain⟨b,rfl⟩:∃t,r5=44::t:=by
           cases r5 with
           |nil=>cases h44
           |cons c t=>have:(c:Int)=44:=h44;exact⟨t,by rw[show c=44 by omega]⟩
          have ae:=zH7 b;rw[if_neg (fun h=>by cases h),if_pos (by rfl),zzX (by decide),List.tail_cons,ih f _ (zek b) (by simp only [List.length_cons]at *;omega) (by simp only [List.length_cons]at *;omega) (zQj b),zge];cases hl5:lex b with
          |none=>rfl
          |some ps=>
            simp only [Option.map_some,Option.bind_some,T,D,true_and,if_true];rw[if_neg (by simp)];cases T ps<;>simp
         ·rw[if_neg (by simpa using h125),if_neg (by simpa using h44)];show none=_;cases hl5:lex r5 with
          |none=>rfl
          |some ps=>
            cases ps with
            |nil=>rfl
            |cons q qs=>
              obtain⟨c,b,y,i⟩:=zYq Q hl5;have C:q.1≠125:=by
               intro e;rcases i with ⟨_,h⟩|⟨_,h⟩|⟨_,h⟩
               ·apply h125;rw[y];show(c:Int)=125;omega
               ·omega
               ·omega
              have K:q.1≠44:=by
               intro e;rcases i with ⟨_,h⟩|⟨_,h⟩|⟨_,h⟩
               ·apply h44;rw[y];show(c:Int)=44;omega
               ·omega
               ·omega
              simp[T,D,C,K]
       ·have hR:((lex (34::t)).bind T)=none:=by
         rw[o,r];cases hl3:lex r3 with
         |none=>rfl
         |some ps=>
           cases ps with
           |nil=>rfl
           |cons q qs=>exact z00 (L q qs hl3)
        rw[hR];rcases s with s|⟨x,c,u,s,E⟩
        ·have d:zcL (34::t)=none:=(by rw[A,s]);rw[zRf,d];rfl
        ·have G:=zHT E;have O:zek (c::u)=c::u:=(by rw[zek,if_neg (by rw[zby,G.1];simp)]);have d:zcL (34::t)=some ((a,x),c::u):=(by rw[A,s];dsimp only;rw[O]);have j:z7R c=false:=G.2.1;have W:¬(zEH (c::u)=125):=(by show ¬((c:Int)=125);unfold z7R at j;simp at j;omega);have U:¬(zEH (c::u)=44):=(by show ¬((c:Int)=44);unfold z7R at j;simp at j;omega);rw[zRf,d];dsimp only;rw[if_neg (by simpa using W),if_neg (by simpa using U)];rfl
      ·have d:zcL (34::t)=none:=(by rw[F,if_neg (by simpa using h58)]);rw[zRf,d,o];show none=_;cases hl2:lex r2 with
       |none=>rfl
       |some ps=>
         cases ps with
         |nil=>rfl
         |cons q qs=>
           obtain⟨c,b,y,i⟩:=zYq R hl2;have J:q.1≠58:=by
            intro e;rcases i with ⟨_,h⟩|⟨_,h⟩|⟨_,h⟩
            ·apply h58;rw[y];show(c:Int)=58;omega
            ·omega
            ·omega
           simp only [Option.map_some,Option.bind_some];rw[zmQ J];rfl
   ·have d:zcL l=none:=by
     unfold zcL;cases l with
     |nil=>rfl
     |cons c t=>
       have:zhn (c::t)=none:=(by unfold zhn;dsimp only;rw[if_neg (by simpa [zEH]using h34)]);rw[this]
    rw[zRf,d];show none=_;cases hl:lex l with
    |none=>rfl
    |some ps=>
      cases ps with
      |nil=>rfl
      |cons q qs=>
        obtain⟨c,b,y,i⟩:=zYq P hl;have J:q.1≠34:=by
         intro e;rcases i with ⟨j,h⟩|⟨X,h⟩|⟨_,h⟩
         ·have:c=34:=(by omega);subst this;cases j
         ·apply h34;rw[y,X];rfl
         ·omega
        simp only [Option.bind_some];rw[zcK J];rfl
theorem zDe (R:List Nat)(k:zek R=R):zgu (zfb R)=((lex R).bind objT).map (List.map znV):=by
 by_cases h123:zEH R=123
 ·obtain⟨t,rfl⟩:∃t,R=123::t:=by
   cases R with
   |nil=>cases h123
   |cons c t=>have:(c:Int)=123:=h123;exact⟨t,by rw[show c=123 by omega]⟩
  have e:zfb (123::t)=if(zEH (zek t)==125)then some ([],(zek t).tail)else zRf ((123::t).length+1) [] (zek t):=by
   unfold zfb;rw[if_pos (by rfl)];rfl
  have n:=zH7 t;have d:=zQj t;rw[e,zzX (by decide),←zge t];generalize zek t=t1 at*;by_cases h125:zEH t1=125
  ·obtain⟨u,rfl⟩:∃t,t1=125::t:=by
    cases t1 with
    |nil=>cases h125
    |cons c t=>have:(c:Int)=125:=h125;exact⟨t,by rw[show c=125 by omega]⟩
   rw[if_pos (by rfl),zzX (by decide)];have b:=zJl u;show(if zek u=[]then some []else none)=_;by_cases he:zek u=[]
   ·rw[if_pos he,b.2 he];rfl
   ·rw[if_neg he];cases hl:lex u with
    |none=>rfl
    |some ps=>
      have i:ps≠[]:=fun e=>he (b.1 (by rw[hl,e]));simp only [Option.map_some,Option.bind_some,objT];rw[if_pos trivial,if_neg (by simpa using i),zcK (by decide)];rfl
  ·rw[if_neg (by simpa using h125),zmo _ _ [] t1 zH (by simp;omega) d];cases hl:lex t1 with
   |none=>rfl
   |some ps=>
     have j:ps.map (·.1)≠[125]:=by
      intro e;cases ps with
      |nil=>cases e
      |cons q qs=>
        simp at e;obtain⟨c,l,g,a⟩:=zYq d hl;rcases a with ⟨_,h⟩|⟨_,h⟩|⟨_,h⟩
        ·apply h125;rw[g];show(c:Int)=125;omega
        ·omega
        ·omega
     simp only [Option.map_some,Option.bind_some,objT];rw[if_pos trivial,if_neg j];cases T ps<;>simp
 ·have e:zfb R=none:=by unfold zfb;rw[if_neg (by simpa using h123)]
  rw[e];show none=_;cases hl:lex R with
  |none=>rfl
  |some ps=>
    cases ps with
    |nil=>rfl
    |cons q qs=>
      obtain⟨c,l,g,a⟩:=zYq k hl;have m:q.1≠123:=by
       intro e;rcases a with ⟨_,h⟩|⟨_,h⟩|⟨_,h⟩
       ·apply h123;rw[g];show(c:Int)=123;omega
       ·omega
       ·omega
      simp only [Option.bind_some,objT];rw[if_neg m];rfl
theorem zVI (s:ByteArray):zIo s=((zvF (lets s)).bind objT).map (List.map znV):=by
 have b:zvF (lets s)=if Lib.validD s.data.toList then lex (RU s.data.toList)else none:=by
  show z3RT ((nats s.data.toList).length+1) [] (nats s.data.toList)=_;rw[zCq];have:=zTH _ s.data.toList zH;have a:(nats s.data.toList).length=s.data.toList.length:=by simp[nats]
  rw[a,zwA _ _ _ (by omega)];cases lex (RU s.data.toList)<;>simp
 unfold zIo;rw[b,zpw];cases hv:Lib.validD s.data.toList with
 |false=>rfl
 |true=>
   rw[if_pos rfl,if_pos rfl];have:=zDe (zek (RU s.data.toList)) (zQj _);rw[zge]at this;rw[←this];unfold zgu;cases zfb (zek (RU s.data.toList))<;>rfl
end Go.Proofs.YtoeoinpaidhmcaaGreatDoor
