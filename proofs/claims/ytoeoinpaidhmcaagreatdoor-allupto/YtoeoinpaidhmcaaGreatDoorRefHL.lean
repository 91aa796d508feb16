/- Several texts in one. -/
import Derived.Test.YtoeoinpaidhmcaaGreatDoorHistY
import Derived.Test.YtoeoinpaidhmcaaGreatDoorRefG
set_option maxHeartbeats 9000000
set_option maxRecDepth 100000
namespace Go.Proofs.YtoeoinpaidhmcaaGreatDoor
open Tryz
open Go.RowKit
theorem zeP (l:List Nat):∀(f a:Nat) (b:List UInt8),l.length<f→l.length<a→z6V f b l=z6V a b l:=by
 induction hn:l.length using Nat.strongRecOn generalizing l with
 |_ n ih=>
   intro f a b h i;obtain⟨f,rfl⟩:∃g,f=g+1:=⟨f-1,by omega⟩;obtain⟨a,rfl⟩:∃g,a=g+1:=⟨a-1,by omega⟩;cases l with
   |nil=>rfl
   |cons c t=>
     simp at hn;unfold z6V;split
     ·rfl
     ·split
      ·cases hx:zvTw t with
       |none=>rfl
       |some p=>
         obtain⟨v,m⟩:=p;have:=zf5 hx;exact ih (t.drop m).length (by simp;omega) (t.drop m) rfl f a _ (by simp;omega) (by simp;omega)
      ·split
       ·rfl
       ·rename_i hb;have e:=z9Z (c::t);have d:1≤(zZe (c::t)).toNat:=(by omega);exact ih ((c::t).drop (zZe (c::t)).toNat).length (by simp;omega) _ rfl f a _ (by simp;omega) (by simp;omega)
def zEm (t:List Nat):Option (List UInt8×List Nat):=z6V (t.length+1) [] t
def zOT (c:Nat):Bool:=c==45||(decide (48≤c)&&decide (c≤57))||(decide (97≤c)&&decide (c≤122))
def wordLen:List Nat→Nat
 | []=>0
 |c::t=>if zOT c then wordLen t+1 else 0
theorem zON (l:List Nat):wordLen l≤l.length:=by
 induction l with
 |nil=>simp[wordLen]
 |cons c t ih=>unfold wordLen;split<;>simp;omega
theorem z9b {c:Nat}{t:List Nat}(h:zOT c=true):wordLen (c::t)=wordLen t+1:=by unfold wordLen;rw[if_pos h];cases t<;>rfl
abbrev Pc:=Nat×List UInt8
def zEz (c:Nat):Bool:=c==32||c==9||c==13
def z7R (c:Nat):Bool:=c==123||c==125||c==58||c==44
def z3RT:Nat→List Pc→List Nat→Option (List Pc)
 |0,_,_=>none
 |_+1,acc,[]=>some acc
 |f+1,acc,c::t=>if zEz c then z3RT f acc t else if z7R c then z3RT f (acc++[(c,[])]) t
   else if c=34 then(match zEm t with|none=>none|some (v,r)=>z3RT f (acc++[(34,v)]) r)
   else if wordLen (c::t)=0 then none else z3RT f (acc++[(119,zU1 ((c::t).take (wordLen (c::t))))]) ((c::t).drop (wordLen (c::t)))
def zvF (l:List Nat):Option (List Pc):=z3RT (l.length+1) [] l
def zEN (p:Pc):List Value:=[.int .u8 (p.1:Int),.string ⟨p.2.toArray⟩]
def z9c (l:List Pc):List Value:=l.flatMap zEN
theorem zpG (l:List Pc)(m:Pc):z9c (l++[m])=z9c l++zEN m:=by simp[z9c]
theorem zq7:(prog.info? 122).map (fun i=>(i.zero,i.size,i.bytes))=some (some (.agg #[.int .u8 0,.string ⟨#[]⟩]),2,24):=by kernel_rfl
theorem zQa (w:World)(a b:Value)(t:TypeId):∀j u,[a,b][j]?=some u→(w.alloc (.cells #[a,b] t)).cell? ((⟨w.heap.size,0,none⟩:Addr).add j)=some u:=by
 intro j u d
 match j,d with
 |0,d=>simp at d;subst d;simp[Addr.add]
 |1,d=>simp at d;subst d;simp[Addr.add]
theorem Below.grown' {a w w':World}{b:Option Nat}(h:Below a.heap.size a w)(d:w.grownBy w' b)(e:∀g,b=some g→a.heap.size≤g):Below a.heap.size a w':=h.grown d h.size e
theorem bq32 (x a:Nat)(h:x=a):((x:Int)==32)=(a==32):=by subst h;rw[Bool.eq_iff_iff];simp;omega
theorem bq9 (x a:Nat)(h:x=a):((x:Int)==9)=(a==9):=by subst h;rw[Bool.eq_iff_iff];simp;omega
theorem bq13 (x a:Nat)(h:x=a):((x:Int)==13)=(a==13):=by subst h;rw[Bool.eq_iff_iff];simp;omega
theorem ztG (x a:Nat)(h:x=a):((x:Int)==123)=(a==123):=by subst h;rw[Bool.eq_iff_iff];simp;omega
theorem z0l (x a:Nat)(h:x=a):((x:Int)==125)=(a==125):=by subst h;rw[Bool.eq_iff_iff];simp;omega
theorem bq58 (x a:Nat)(h:x=a):((x:Int)==58)=(a==58):=by subst h;rw[Bool.eq_iff_iff];simp;omega
theorem bq44 (x a:Nat)(h:x=a):((x:Int)==44)=(a==44):=by subst h;rw[Bool.eq_iff_iff];simp;omega
def pcOk (p:Pc):Prop:=p.1<256∧p.2.length≤8000000
def zu7 (s:ByteArray)(w:World)(e:Ending)(w':World):Prop:=
 Below w.heap.size w w'∧((∃ps v,zvF (lets s)=some ps∧ps.length≤s.size∧(∀p∈ps,pcOk p)∧w'.ownsRow w.heap.size 122 2 v ps.length (z9c ps)∧e=.returned (.tuple #[v,.bool true]))∨
  (zvF (lets s)=none∧e=.returned (.tuple #[.slice none 0 0,.bool false])))
theorem zGy (s:ByteArray)(w:World)(hs:s.size≤2000000):
 Calls prog 51 #[.string s] w fun e w'=>zu7 s w e w':=by
 go_enter func51,ntmps51;go_wp2;go_loopw [4,5] (fun v i wr=>∃(j f:Nat) (a:List Pc),i=.int .i64 (j:Int)∧j≤s.size∧a.length≤j∧s.size+1≤j+f∧(∀p∈a,pcOk p)∧z3RT f a ((lets s).drop j)=zvF (lets s)∧wr.ownsRow w.heap.size 122 2 v a.length (z9c a)∧Below w.heap.size w wr) (fun _ i _=>s.size-(intOf i).toNat)
 case atStart=>exact⟨0,s.size+1,[],rfl,by omega,by simp,by omega,by simp,by unfold zvF;rw[List.drop_zero,zSQ],World.ownsRow_nil _ _ _ _,zD⟩
 case round=>
  obtain⟨i0,hi,Q,R,O⟩:=info_parts zq7;obtain⟨j,f,a,rfl,au,al,av,x,HR,k,o⟩:=hrel;have hR:Hid (z3RT f a ((lets s).drop j)=zvF (lets s)):=HR;clear HR;by_cases hin:j<s.size
  ·obtain⟨f,rfl⟩:∃f',f=f'+1:=⟨f-1,by omega⟩;have ad:(j:Int)<(s.size:Int):=(by omega);have aa:(s[j]).toNat<256:=(s[j]).toNat_lt;have H:Hid ((lets s).drop j=(s[j]).toNat::(lets s).drop (j+1)):=zhG hin;by_cases hbk:(s[j]).toNat=32∨(s[j]).toNat=9∨(s[j]).toNat=13
   ·have t:Hid (z3RT f a ((lets s).drop (j+1))=zvF (lets s)):=by
     rw[←hR.out,H.out,z3RT,if_pos (by unfold zEz;simp;omega)];exact rfl
    clear hR H;rcases hbk with h|h|h
    all_goals
     have b1:=bq32 _ _ h;have X:=bq9 _ _ h;have Z:=bq13 _ _ h;simp only [Nat.reduceBEq]at b1 X Z;clear h;go_wp2;go_roundw
     case rel=>exact⟨j+1,f,a,by go_num,by omega,by omega,by omega,x,t.out,k,o⟩
     case measure=>simp[intOf];omega
   ·by_cases hmk:(s[j]).toNat=123∨(s[j]).toNat=125∨(s[j]).toNat=58∨(s[j]).toNat=44
    ·have t:Hid (z3RT f (a++[((s[j]).toNat,[])]) ((lets s).drop (j+1))=zvF (lets s)):=by
      rw[←hR.out,H.out,z3RT,if_neg (by unfold zEz;simp;omega),if_pos (by unfold z7R;simp;omega)];exact rfl
     have B:∀p∈a++[((s[j]).toNat,[])],pcOk p:=by
      intro p l;rcases List.mem_append.1 l with l|l
      ·exact x p l
      ·simp at l;subst l;exact⟨aa,by simp⟩
     clear hR H hbk x;rcases hmk with h|h|h|h
     all_goals
      have b1:=bq32 _ _ h;have X:=bq9 _ _ h;have Z:=bq13 _ _ h;have b4:=ztG _ _ h;have b5:=z0l _ _ h;have b6:=bq58 _ _ h;have b7:=bq44 _ _ h;simp only [Nat.reduceBEq]at b1 X Z b4 b5 b6 b7;clear h;have ae:=o.size;go_wp2_with (at_builtin;refine wpList_append_own _ rfl _ _ 118 rfl w.heap.size 122 i0 (.agg #[.int .u8 0,.string ⟨#[]⟩]) 2 24 underlying118 hi Q R O rfl (by decide) _ _ _ rfl (k.alloc _) ⟨wr.heap.size,0,none⟩ 1 1 (zEN ((s[j]).toNat,[])) rfl rfl ?c1 ?c2 ?c3 ?c4 ?c5 ?_)
      case c1=>simpa [zEN]using zQa wr (.int .u8 ((s[j]).toNat:Int)) (.string ⟨#[]⟩) 122
      case c2=>
       intro u V;simp[zEN]at V;rcases V with rfl|rfl<;>rfl
      case c3=>unfold maxLen;omega
      case c4=>omega
      case c5=>simp;omega
      intro W G b g _;have m:=zYv k;have F:Below w.heap.size w G:=Below.grown' (o.alloc (by omega) _) g m;rw[←zpG]at b;have z:G.ownsRow w.heap.size 122 2 W (a++[((s[j]).toNat,[])]).length (z9c (a++[((s[j]).toNat,[])])):=(by simpa using b);clear b g m k;generalize hacc:a++[((s[j]).toNat,[])]=acc' at*;have C:acc'.length≤j+1:=(by rw[←hacc];simp;omega);go_wp2;go_roundw
      case rel=>exact⟨j+1,f,acc',by go_num,by omega,C,by omega,B,t.out,z,F⟩
      case measure=>simp[intOf];omega
    ·have K:¬zEz (s[j]).toNat=true:=(by unfold zEz;simp;omega);have L:¬z7R (s[j]).toNat=true:=(by unfold z7R;simp;omega);have b1:(((s[j]).toNat:Int)==32)=false:=(by simp;omega);have X:(((s[j]).toNat:Int)==9)=false:=(by simp;omega);have Z:(((s[j]).toNat:Int)==13)=false:=(by simp;omega);have b4:(((s[j]).toNat:Int)==123)=false:=(by simp;omega);have b5:(((s[j]).toNat:Int)==125)=false:=(by simp;omega);have b6:(((s[j]).toNat:Int)==58)=false:=(by simp;omega);have b7:(((s[j]).toNat:Int)==44)=false:=(by simp;omega);clear hbk hmk;have ae:=o.size;by_cases h34:(s[j]).toNat=34
     ·have b8:(((s[j]).toNat:Int)==34)=true:=(by simp;omega);have D:Hid (zvF (lets s)=match z6V (s.size+1) [] ((lets s).drop (j+1))with|none=>none|some (v,r)=>z3RT f (a++[((s[j]).toNat,v)]) r):=by
       rw[←hR.out,H.out,z3RT,if_neg K,if_neg L,if_pos h34,h34];have af:((lets s).drop (j+1)).length<s.size+1:=(by rw[List.length_drop,zSQ];omega);rw[zeP ((lets s).drop (j+1)) (s.size+1) (((lets s).drop (j+1)).length+1) [] af (by omega)];exact rfl
      clear hR H K L h34;go_wp2_with fail;refine(quoted_any s j _ hs hin).mono ?_;rintro e w2 ⟨ab,⟨v,Y,N,am,aq,aw,rfl⟩|⟨N,rfl⟩⟩
      all_goals
       have J:Below w.heap.size w w2:=o.trans (ab.mono o.size);have ah:=J.size
      ·have t:Hid (z3RT f (a++[((s[j]).toNat,v)]) ((lets s).drop Y)=zvF (lets s)):=(by rw[D.out,N];exact rfl);have B:∀p∈a++[((s[j]).toNat,v)],pcOk p:=by
        intro p l;rcases List.mem_append.1 l with l|l
        ·exact x p l
        ·simp at l;subst l;exact⟨aa,by show v.length≤8000000;omega⟩
       have I:=zzF k (Kept.of_below (S:=[]) ab) (by simp);have ai:¬((Y:Int)<0):=(by omega);clear D N x k;go_wp2_with (at_builtin;refine wpList_append_own _ rfl _ _ 118 rfl w.heap.size 122 i0 (.agg #[.int .u8 0,.string ⟨#[]⟩]) 2 24 underlying118 hi Q R O rfl (by decide) _ _ _ rfl (I.alloc _) ⟨w2.heap.size,0,none⟩ 1 1 (zEN ((s[j]).toNat,v)) rfl rfl ?c1 ?c2 ?c3 ?c4 ?c5 ?_)
       case c1=>simpa [zEN]using zQa w2 (.int .u8 ((s[j]).toNat:Int)) (.string ⟨v.toArray⟩) 122
       case c2=>
        intro u V;simp[zEN]at V;rcases V with rfl|rfl<;>rfl
       case c3=>unfold maxLen;omega
       case c4=>omega
       case c5=>simp;omega
       intro W G b g _;have m:=zYv I;have F:Below w.heap.size w G:=Below.grown' (J.alloc (by omega) _) g m;rw[←zpG]at b;have z:G.ownsRow w.heap.size 122 2 W (a++[((s[j]).toNat,v)]).length (z9c (a++[((s[j]).toNat,v)])):=(by simpa using b);clear b g m I;generalize hacc:a++[((s[j]).toNat,v)]=acc' at*;have C:acc'.length≤Y:=(by rw[←hacc];simp;omega);go_wp2;go_roundw
       case rel=>exact⟨Y,f,acc',by go_num,by omega,C,by omega,B,t.out,z,F⟩
       case measure=>simp[intOf];omega
      ·have t:Hid (zvF (lets s)=none):=(by rw[D.out,N];exact rfl);clear D N;go_wp2;go_ret2;exact⟨J,Or.inr ⟨t.out,rfl⟩⟩
     ·have b8:(((s[j]).toNat:Int)==34)=false:=(by simp;omega);have D:Hid (zvF (lets s)=if wordLen ((lets s).drop j)=0 then none else z3RT f (a++[(119,zU1 (((lets s).drop j).take (wordLen ((lets s).drop j))))]) (((lets s).drop j).drop (wordLen ((lets s).drop j)))):=by
       rw[←hR.out,H.out,z3RT,if_neg K,if_neg L,if_neg h34];exact rfl
      have an:wordLen ((lets s).drop j)≤s.size-j:=(by have:=zON ((lets s).drop j);rw[List.length_drop,zSQ]at this;exact this);clear hR H K L h34;generalize hn:wordLen ((lets s).drop j)=n at*;have hN:Hid (wordLen ((lets s).drop j)=n):=hn;clear hn;go_wp2;go_loop [5] (fun i=>∃(q:Nat),i=.int .i64 (q:Int)∧j≤q∧q≤j+n∧wordLen ((lets s).drop q)+q=n+j) (fun i=>s.size-(intOf i).toNat)
      case atStart=>exact⟨j,rfl,by omega,by omega,by rw[hN.out]⟩
      case round=>
       obtain⟨q,rfl,az,ax,HK⟩:=hrel;have hK:Hid (wordLen ((lets s).drop q)+q=n+j):=HK;clear HK hN;by_cases hgo:∃h:q<s.size,zOT (s[q]).toNat=true
       ·obtain⟨d,A⟩:=hgo;have M:Hid (wordLen ((lets s).drop (q+1))+(q+1)=n+j):=by
         have:=hK.out;rw[zhG d,z9b A]at this;show _=n+j;omega
        have ay:q+1≤j+n:=(by have:=M.out;omega);have ag:(q:Int)<(s.size:Int):=(by omega);have y:(s[q]).toNat=45∨(48≤(s[q]).toNat∧(s[q]).toNat≤57)∨(97≤(s[q]).toNat∧(s[q]).toNat≤122):=by
         unfold zOT at A;simp at A;omega
        clear hK A;rcases y with h|⟨h,h'⟩|⟨h,h'⟩
        ·have c1:(((s[q]).toNat:Int)==45)=true:=(by simp;omega);clear h;go_wp2;go_round
         case rel=>exact⟨q+1,by go_num,by omega,by omega,M.out⟩
         case measure=>simp[intOf];omega
        ·have c1:(((s[q]).toNat:Int)==45)=false:=(by simp;omega);have c2:(48:Int)≤((s[q]).toNat:Int):=(by omega);have c3:((s[q]).toNat:Int)≤57:=(by omega);clear h h';go_wp2;go_round
         case rel=>exact⟨q+1,by go_num,by omega,by omega,M.out⟩
         case measure=>simp[intOf];omega
        ·have c1:(((s[q]).toNat:Int)==45)=false:=(by simp;omega);have c2:(48:Int)≤((s[q]).toNat:Int):=(by omega);have c3:¬((s[q]).toNat:Int)≤57:=(by omega);have c4:(97:Int)≤((s[q]).toNat:Int):=(by omega);have c5:((s[q]).toNat:Int)≤122:=(by omega);clear h h';go_wp2;go_round
         case rel=>exact⟨q+1,by go_num,by omega,by omega,M.out⟩
         case measure=>simp[intOf];omega
       ·have E:q=j+n:=by
         have hz:wordLen ((lets s).drop q)=0:=by
          by_cases d:q<s.size
          ·rw[zhG d];unfold wordLen;rw[if_neg (fun h=>hgo ⟨d,h⟩)]
          ·rw[zgM (by omega)];rfl
         have:=hK.out;omega
        have y:(¬(q:Int)<(s.size:Int))∨(∃h:q<s.size,(q:Int)<(s.size:Int)∧(((s[q]).toNat:Int)==45)=false∧¬(48:Int)≤((s[q]).toNat:Int)∧¬(97:Int)≤((s[q]).toNat:Int))∨
         (∃h:q<s.size,(q:Int)<(s.size:Int)∧(((s[q]).toNat:Int)==45)=false∧(48:Int)≤((s[q]).toNat:Int)∧¬((s[q]).toNat:Int)≤57∧¬(97:Int)≤((s[q]).toNat:Int))∨
         (∃h:q<s.size,(q:Int)<(s.size:Int)∧(((s[q]).toNat:Int)==45)=false∧(48:Int)≤((s[q]).toNat:Int)∧¬((s[q]).toNat:Int)≤57∧(97:Int)≤((s[q]).toNat:Int)∧¬((s[q]).toNat:Int)≤122):=by
         by_cases d:q<s.size
         ·right;have A:¬zOT (s[q]).toNat=true:=fun h=>hgo ⟨d,h⟩;unfold zOT at A;simp only [Bool.or_eq_true,Bool.and_eq_true,decide_eq_true_eq,beq_iff_eq]at A;have U:(((s[q]).toNat:Int)==45)=false:=(by simp;omega);have P:(q:Int)<(s.size:Int):=(by omega);by_cases h1:(s[q]).toNat<48
          ·exact Or.inl ⟨d,P,U,by omega,by omega⟩
          ·by_cases h2:(s[q]).toNat<97
           ·exact Or.inr (Or.inl ⟨d,P,U,by omega,by omega,by omega⟩)
           ·exact Or.inr (Or.inr ⟨d,P,U,by omega,by omega,by omega,by omega⟩)
         ·left;omega
        clear hgo hK;by_cases hn0:n=0
        ·have t:Hid (zvF (lets s)=none):=(by rw[D.out,if_pos hn0];exact rfl);have he:((q:Int)==(j:Int))=true:=(by simp;omega);clear D hn0 E;rcases y with h1|⟨d,h1,h2,h3,h4⟩|⟨d,h1,h2,h3,h4,h5⟩|⟨d,h1,h2,h3,h4,h5,h6⟩
         all_goals
          go_wp2;go_ret2;exact⟨o,Or.inr ⟨t.out,rfl⟩⟩
        ·have t:Hid (z3RT f (a++[(119,zU1 (((lets s).drop j).take n))]) ((lets s).drop q)=zvF (lets s)):=by
          rw[D.out,if_neg hn0,List.drop_drop,E];exact rfl
         have he:((q:Int)==(j:Int))=false:=(by simp;omega);have ao:q≤s.size:=(by omega);have ar:j<q:=(by omega);have hx:s.extract j q=⟨(zU1 (((lets s).drop j).take n)).toArray⟩:=(by rw[E];exact z5M s j n);have B:∀p∈a++[((119:Nat),zU1 (((lets s).drop j).take n))],pcOk p:=by
          intro p l;rcases List.mem_append.1 l with l|l
          ·exact x p l
          ·simp at l;subst l;exact⟨by show(119:Nat)<256;omega,by simp[zU1];omega⟩
         generalize zU1 (((lets s).drop j).take n)=wd at*;clear D hn0 E x;have ak:(j:Int)≤(q:Int):=(by omega);have aj:(q:Int)≤(s.size:Int):=(by omega);rcases y with h1|⟨d,h1,h2,h3,h4⟩|⟨d,h1,h2,h3,h4,h5⟩|⟨d,h1,h2,h3,h4,h5,h6⟩
         all_goals
          go_wp2_with (at_builtin;refine wpList_append_own _ rfl _ _ 118 rfl w.heap.size 122 i0 (.agg #[.int .u8 0,.string ⟨#[]⟩]) 2 24 underlying118 hi Q R O rfl (by decide) _ _ _ rfl (k.alloc _) ⟨wr.heap.size,0,none⟩ 1 1 [.int .u8 119,.string ⟨wd.toArray⟩] rfl rfl ?c1 ?c2 ?c3 ?c4 ?c5 ?_)
          case c2=>exact⟨rfl,rfl⟩
          case c3=>unfold maxLen;omega
          case c4=>omega
          case c5=>omega
          intro W G b g _;have m:=zYv k;have F:Below w.heap.size w G:=Below.grown' (o.alloc (by omega) _) g m;rw[show [Value.int .u8 119,Value.string ⟨wd.toArray⟩]=zEN ((119:Nat),wd)from rfl,←zpG]at b;have z:G.ownsRow w.heap.size 122 2 W (a++[((119:Nat),wd)]).length (z9c (a++[((119:Nat),wd)])):=(by simpa using b);clear b g m k;generalize hacc:a++[((119:Nat),wd)]=acc' at*;have C:acc'.length≤q:=(by rw[←hacc];simp;omega);go_wp2;go_roundw
          case rel=>exact⟨q,f,acc',by go_num,by omega,C,by omega,B,t.out,z,F⟩
          case measure=>simp[intOf];omega
  ·have t:Hid (zvF (lets s)=some a):=by
    rw[←hR.out,zgM (by omega)];obtain⟨f,rfl⟩:∃f',f=f'+1:=⟨f-1,by omega⟩;exact rfl
   have ad:¬(j:Int)<(s.size:Int):=(by omega);clear hR;go_wp2;go_ret2;exact⟨o,Or.inl ⟨a,_,t.out,by omega,x,k,rfl⟩⟩
def rMem (name:ByteArray)(kind:Nat)(s:ByteArray)(n:Int):Value:=.agg #[.string name,.int .u8 (kind:Int),.string s,.int .i64 n]
def zMi (mark:Nat)(s:ByteArray):Nat×ByteArray×Int×Bool:=
 if mark=34 then(115,s,0,true)else if mark≠119 then(0,⟨#[]⟩,0,false)
 else if(s.toList==[116,114,117,101])=true then(116,⟨#[]⟩,0,true)
 else if(s.toList==[102,97,108,115,101])=true then(102,⟨#[]⟩,0,true)
 else if(s.toList==[110,117,108,108])=true then(110,⟨#[]⟩,0,true)
 else(105,⟨#[]⟩,(zyu (lets s)).1,(zyu (lets s)).2)
def zAj (p:Nat×ByteArray×Int×Bool):Value:=.tuple #[rMem ⟨#[]⟩ p.1 p.2.1 p.2.2.1,.bool p.2.2.2]
theorem z4Z (a:Nat)(s:ByteArray)(w:World)(i:s.size≤9000000)(_hm:a<256):
 Calls prog 52 #[.agg #[.int .u8 a,.string s]] w fun e w'=>Below w.heap.size w w'∧e=.returned (zAj (zMi a s)):=by
 go_enter func52,ntmps52;by_cases h34:a=34
 ·have g:((a:Int)==34)=true:=by simp;omega
  have d:Hid (zMi a s=(115,s,0,true)):=by unfold zMi;rw[if_pos h34];exact rfl
  go_wp2;refine bodyPost_ret (v:=zAj (115,s,0,true)) (by simp[results,results52,go_sem,zAj,rMem]) rfl ⟨?_,by rw[d.out]⟩
  (repeat (first|exact zD|refine Below.alloc ?_ (by simp<;>omega) _|refine Below.setCell ?_ (by simp<;>omega) _))
 ·have g:((a:Int)==34)=false:=by simp;omega
  by_cases hw:a=119
  ·have h:((a:Int) != 119)=false:=(by simp;omega);cases q1:(s.toList==[116,114,117,101])with
   |true=>
     have d:Hid (zMi a s=(116,⟨#[]⟩,0,true)):=(by unfold zMi;rw[if_neg h34,if_neg (by omega),if_pos q1];exact rfl);go_wp2;refine bodyPost_ret (v:=zAj (116,⟨#[]⟩,0,true)) (by simp[results,results52,go_sem,zAj,rMem]) rfl ⟨?_,by rw[d.out]⟩
     (repeat (first|exact zD|refine Below.alloc ?_ (by simp<;>omega) _|refine Below.setCell ?_ (by simp<;>omega) _))
   |false=>
     cases q2:(s.toList==[102,97,108,115,101])with
     |true=>
       have d:Hid (zMi a s=(102,⟨#[]⟩,0,true)):=(by unfold zMi;rw[if_neg h34,if_neg (by omega),if_neg (by simp only [q1];decide),if_pos q2];exact rfl);go_wp2;refine bodyPost_ret (v:=zAj (102,⟨#[]⟩,0,true)) (by simp[results,results52,go_sem,zAj,rMem]) rfl ⟨?_,by rw[d.out]⟩
       (repeat (first|exact zD|refine Below.alloc ?_ (by simp<;>omega) _|refine Below.setCell ?_ (by simp<;>omega) _))
     |false=>
       cases q3:(s.toList==[110,117,108,108])with
       |true=>
         have d:Hid (zMi a s=(110,⟨#[]⟩,0,true)):=(by unfold zMi;rw[if_neg h34,if_neg (by omega),if_neg (by simp only [q1];decide),if_neg (by simp only [q2];decide),if_pos q3];exact rfl);go_wp2;refine bodyPost_ret (v:=zAj (110,⟨#[]⟩,0,true)) (by simp[results,results52,go_sem,zAj,rMem]) rfl ⟨?_,by rw[d.out]⟩
         (repeat (first|exact zD|refine Below.alloc ?_ (by simp<;>omega) _|refine Below.setCell ?_ (by simp<;>omega) _))
       |false=>
         have d:Hid (zMi a s=(105,⟨#[]⟩,(zyu (lets s)).1,(zyu (lets s)).2)):=(by unfold zMi;rw[if_neg h34,if_neg (by omega),if_neg (by simp only [q1];decide),if_neg (by simp only [q2];decide),if_neg (by simp only [q3];decide)];exact rfl);go_wp2_with fail;refine(whole_any s _ i).mono ?_;rintro e j ⟨rfl,rfl⟩;generalize zyu (lets s)=r at*;obtain⟨n,b⟩:=r;go_wp2;refine bodyPost_ret (v:=zAj (105,⟨#[]⟩,n,b)) (by simp[results,results52,go_sem,zAj,rMem]) rfl ⟨?_,by rw[d.out]⟩
         (repeat (first|exact zD|refine Below.alloc ?_ (by simp<;>omega) _|refine Below.setCell ?_ (by simp<;>omega) _))
  ·have h:((a:Int) != 119)=true:=(by simp;omega);have d:Hid (zMi a s=(0,⟨#[]⟩,0,false)):=(by unfold zMi;rw[if_neg h34,if_pos hw];exact rfl);go_wp2;refine bodyPost_ret (v:=zAj (0,⟨#[]⟩,0,false)) (by simp[results,results52,go_sem,zAj,rMem]) rfl ⟨?_,by rw[d.out]⟩
   (repeat (first|exact zD|refine Below.alloc ?_ (by simp<;>omega) _|refine Below.setCell ?_ (by simp<;>omega) _))
def fitP (name:List UInt8)(kind:Nat)(call:Bool):Bool:=
 if(name==[99,97,108,108])=true then call&&((kind:Int)==105)else
 if(name==[98,121])=true then call&&((kind:Int)==105)else
 if(name==[97,114,103])=true then call&&((kind:Int)==105)else
 if(name==[101,120,112])=true then call&&((kind:Int)==105)else
 if(name==[111,112])=true then call&&((kind:Int)==115)else
 if(name==[107,101,121])=true then call&&((kind:Int)==115)else
 if(name==[114,101,116])=true then !call&&((kind:Int)==105)else
 if(name==[118,97,108])=true then !call&&((kind:Int) != 115)else
 false
theorem zNE (b:ByteArray)(a:Nat)(s:ByteArray)(n:Int)(call:Bool)(w:World)(_hk:a<256):
 Calls Tryz.prog 91 #[rMem b a s n,.bool call] w fun e w'=>Below w.heap.size w w'∧e=.returned (.bool (fitP b.toList a call)):=by
 unfold rMem;go_enter Tryz.func91,Tryz.ntmps91;cases q1:(b.toList==[99,97,108,108])with
 |true=>
   have d:Hid (fitP b.toList a call=(call&&((a:Int)==105))):=(by unfold fitP;rw[if_pos q1];exact rfl);cases call
   all_goals
    go_wp2;go_ret;refine⟨by(repeat (first|exact zD|refine Below.alloc ?_ (by simp<;>omega) _|refine Below.setCell ?_ (by simp<;>omega) _)),?_⟩;rw[d.out];rfl
 |false=>
   cases q2:(b.toList==[98,121])with
   |true=>
     have d:Hid (fitP b.toList a call=(call&&((a:Int)==105))):=(by unfold fitP;rw[if_neg (by simp only [q1];decide),if_pos q2];exact rfl);cases call
     all_goals
      go_wp2;go_ret;refine⟨by(repeat (first|exact zD|refine Below.alloc ?_ (by simp<;>omega) _|refine Below.setCell ?_ (by simp<;>omega) _)),?_⟩;rw[d.out];rfl
   |false=>
     cases q3:(b.toList==[97,114,103])with
     |true=>
       have d:Hid (fitP b.toList a call=(call&&((a:Int)==105))):=(by unfold fitP;rw[if_neg (by simp only [q1];decide),if_neg (by simp only [q2];decide),if_pos q3];exact rfl);cases call
       all_goals
        go_wp2;go_ret;refine⟨by(repeat (first|exact zD|refine Below.alloc ?_ (by simp<;>omega) _|refine Below.setCell ?_ (by simp<;>omega) _)),?_⟩;rw[d.out];rfl
     |false=>
       cases q4:(b.toList==[101,120,112])with
       |true=>
         have d:Hid (fitP b.toList a call=(call&&((a:Int)==105))):=(by unfold fitP;rw[if_neg (by simp only [q1];decide),if_neg (by simp only [q2];decide),if_neg (by simp only [q3];decide),if_pos q4];exact rfl);cases call
         all_goals
          go_wp2;go_ret;refine⟨by(repeat (first|exact zD|refine Below.alloc ?_ (by simp<;>omega) _|refine Below.setCell ?_ (by simp<;>omega) _)),?_⟩;rw[d.out];rfl
       |false=>
         cases q5:(b.toList==[111,112])with
         |true=>
           have d:Hid (fitP b.toList a call=(call&&((a:Int)==115))):=(by unfold fitP;rw[if_neg (by simp only [q1];decide),if_neg (by simp only [q2];decide),if_neg (by simp only [q3];decide),if_neg (by simp only [q4];decide),if_pos q5];exact rfl);cases call
           all_goals
            go_wp2;go_ret;refine⟨by(repeat (first|exact zD|refine Below.alloc ?_ (by simp<;>omega) _|refine Below.setCell ?_ (by simp<;>omega) _)),?_⟩;rw[d.out];rfl
         |false=>
           cases q6:(b.toList==[107,101,121])with
           |true=>
             have d:Hid (fitP b.toList a call=(call&&((a:Int)==115))):=(by unfold fitP;rw[if_neg (by simp only [q1];decide),if_neg (by simp only [q2];decide),if_neg (by simp only [q3];decide),if_neg (by simp only [q4];decide),if_neg (by simp only [q5];decide),if_pos q6];exact rfl);cases call
             all_goals
              go_wp2;go_ret;refine⟨by(repeat (first|exact zD|refine Below.alloc ?_ (by simp<;>omega) _|refine Below.setCell ?_ (by simp<;>omega) _)),?_⟩;rw[d.out];rfl
           |false=>
             cases q7:(b.toList==[114,101,116])with
             |true=>
               have d:Hid (fitP b.toList a call=(!call&&((a:Int)==105))):=(by unfold fitP;rw[if_neg (by simp only [q1];decide),if_neg (by simp only [q2];decide),if_neg (by simp only [q3];decide),if_neg (by simp only [q4];decide),if_neg (by simp only [q5];decide),if_neg (by simp only [q6];decide),if_pos q7];exact rfl);cases call
               all_goals
                go_wp2;go_ret;refine⟨by(repeat (first|exact zD|refine Below.alloc ?_ (by simp<;>omega) _|refine Below.setCell ?_ (by simp<;>omega) _)),?_⟩;rw[d.out];rfl
             |false=>
               cases q8:(b.toList==[118,97,108])with
               |true=>
                 have d:Hid (fitP b.toList a call=(!call&&((a:Int) != 115))):=(by unfold fitP;rw[if_neg (by simp only [q1];decide),if_neg (by simp only [q2];decide),if_neg (by simp only [q3];decide),if_neg (by simp only [q4];decide),if_neg (by simp only [q5];decide),if_neg (by simp only [q6];decide),if_neg (by simp only [q7];decide),if_pos q8];exact rfl);cases call
                 all_goals
                  go_wp2;go_ret;refine⟨by(repeat (first|exact zD|refine Below.alloc ?_ (by simp<;>omega) _|refine Below.setCell ?_ (by simp<;>omega) _)),?_⟩;rw[d.out];rfl
               |false=>
                 have d:Hid (fitP b.toList a call=false):=(by unfold fitP;rw[if_neg (by simp only [q1];decide),if_neg (by simp only [q2];decide),if_neg (by simp only [q3];decide),if_neg (by simp only [q4];decide),if_neg (by simp only [q5];decide),if_neg (by simp only [q6];decide),if_neg (by simp only [q7];decide),if_neg (by simp only [q8];decide)];exact rfl);go_wp2;go_ret;refine⟨by(repeat (first|exact zD|refine Below.alloc ?_ (by simp<;>omega) _|refine Below.setCell ?_ (by simp<;>omega) _)),?_⟩;rw[d.out];rfl
def zyw (l:List UInt8):List UInt8×List UInt8×Bool:=
 if(l==[114,101,103,105,115,116,101,114,32,114,101,97,100])=true then([],[105],true)else
 if(l==[114,101,103,105,115,116,101,114,32,119,114,105,116,101])=true then([97],[110],true)else
 if(l==[113,117,101,117,101,32,101,110,113])=true then([97],[110],true)else
 if(l==[114,101,103,105,115,116,101,114,32,99,97,115])=true then([97,101],[98],true)else
 if(l==[107,118,32,103,101,116])=true then([107],[105,110],true)else
 if(l==[107,118,32,112,117,116])=true then([107,97],[110],true)else
 if(l==[107,118,32,100,101,108])=true then([107],[98],true)else
 if(l==[115,101,116,32,97,100,100])=true then([107],[98],true)else
 if(l==[115,101,116,32,114,101,109])=true then([107],[98],true)else
 if(l==[115,101,116,32,104,97,115])=true then([107],[98],true)else
 if(l==[113,117,101,117,101,32,100,101,113])=true then([],[105,110],true)else
 if(l==[108,111,99,107,32,97,99,113])=true then([],[98],true)else
 if(l==[108,111,99,107,32,114,101,108])=true then([],[98],true)else
 ([],[],false)
def zu1 (p:List UInt8×List UInt8×Bool):Value:=.tuple #[.string ⟨p.1.toArray⟩,.string ⟨p.2.1.toArray⟩,.bool p.2.2]
theorem zf4 (m n:ByteArray)(w:World)(b:m.size≤9000000)(d:n.size≤9000000):
 Calls prog 31 #[.string m,.string n] w fun e w'=>w'=w∧e=.returned (zu1 (zyw (m++(⟨#[32]⟩:ByteArray)++n).toList)):=by
 go_enter func31,ntmps31;cases q1:((m++(⟨#[32]⟩:ByteArray)++n).toList==[114,101,103,105,115,116,101,114,32,114,101,97,100])with
 |true=>
   have a:Hid (zyw (m++(⟨#[32]⟩:ByteArray)++n).toList=([],[105],true)):=(by unfold zyw;rw[if_pos q1];exact rfl);go_wp2;refine bodyPost_ret (v:=zu1 ([],[105],true)) (by simp[results,results31,go_sem,zu1]) rfl ⟨rfl,by rw[a.out]⟩
 |false=>
   cases q2:((m++(⟨#[32]⟩:ByteArray)++n).toList==[114,101,103,105,115,116,101,114,32,119,114,105,116,101])with
   |true=>
     have a:Hid (zyw (m++(⟨#[32]⟩:ByteArray)++n).toList=([97],[110],true)):=(by unfold zyw;rw[if_neg (by simp only [q1];decide),if_pos q2];exact rfl);go_wp2;refine bodyPost_ret (v:=zu1 ([97],[110],true)) (by simp[results,results31,go_sem,zu1]) rfl ⟨rfl,by rw[a.out]⟩
   |false=>
     cases q3:((m++(⟨#[32]⟩:ByteArray)++n).toList==[113,117,101,117,101,32,101,110,113])with
     |true=>
       have a:Hid (zyw (m++(⟨#[32]⟩:ByteArray)++n).toList=([97],[110],true)):=(by unfold zyw;rw[if_neg (by simp only [q1];decide),if_neg (by simp only [q2];decide),if_pos q3];exact rfl);go_wp2;refine bodyPost_ret (v:=zu1 ([97],[110],true)) (by simp[results,results31,go_sem,zu1]) rfl ⟨rfl,by rw[a.out]⟩
     |false=>
       cases q4:((m++(⟨#[32]⟩:ByteArray)++n).toList==[114,101,103,105,115,116,101,114,32,99,97,115])with
       |true=>
         have a:Hid (zyw (m++(⟨#[32]⟩:ByteArray)++n).toList=([97,101],[98],true)):=(by unfold zyw;rw[if_neg (by simp only [q1];decide),if_neg (by simp only [q2];decide),if_neg (by simp only [q3];decide),if_pos q4];exact rfl);go_wp2;refine bodyPost_ret (v:=zu1 ([97,101],[98],true)) (by simp[results,results31,go_sem,zu1]) rfl ⟨rfl,by rw[a.out]⟩
       |false=>
         cases q5:((m++(⟨#[32]⟩:ByteArray)++n).toList==[107,118,32,103,101,116])with
         |true=>
           have a:Hid (zyw (m++(⟨#[32]⟩:ByteArray)++n).toList=([107],[105,110],true)):=(by unfold zyw;rw[if_neg (by simp only [q1];decide),if_neg (by simp only [q2];decide),if_neg (by simp only [q3];decide),if_neg (by simp only [q4];decide),if_pos q5];exact rfl);go_wp2;refine bodyPost_ret (v:=zu1 ([107],[105,110],true)) (by simp[results,results31,go_sem,zu1]) rfl ⟨rfl,by rw[a.out]⟩
         |false=>
           cases q6:((m++(⟨#[32]⟩:ByteArray)++n).toList==[107,118,32,112,117,116])with
           |true=>
             have a:Hid (zyw (m++(⟨#[32]⟩:ByteArray)++n).toList=([107,97],[110],true)):=(by unfold zyw;rw[if_neg (by simp only [q1];decide),if_neg (by simp only [q2];decide),if_neg (by simp only [q3];decide),if_neg (by simp only [q4];decide),if_neg (by simp only [q5];decide),if_pos q6];exact rfl);go_wp2;refine bodyPost_ret (v:=zu1 ([107,97],[110],true)) (by simp[results,results31,go_sem,zu1]) rfl ⟨rfl,by rw[a.out]⟩
           |false=>
             cases q7:((m++(⟨#[32]⟩:ByteArray)++n).toList==[107,118,32,100,101,108])with
             |true=>
               have a:Hid (zyw (m++(⟨#[32]⟩:ByteArray)++n).toList=([107],[98],true)):=(by unfold zyw;rw[if_neg (by simp only [q1];decide),if_neg (by simp only [q2];decide),if_neg (by simp only [q3];decide),if_neg (by simp only [q4];decide),if_neg (by simp only [q5];decide),if_neg (by simp only [q6];decide),if_pos q7];exact rfl);go_wp2;refine bodyPost_ret (v:=zu1 ([107],[98],true)) (by simp[results,results31,go_sem,zu1]) rfl ⟨rfl,by rw[a.out]⟩
             |false=>
               cases q8:((m++(⟨#[32]⟩:ByteArray)++n).toList==[115,101,116,32,97,100,100])with
               |true=>
                 have a:Hid (zyw (m++(⟨#[32]⟩:ByteArray)++n).toList=([107],[98],true)):=(by unfold zyw;rw[if_neg (by simp only [q1];decide),if_neg (by simp only [q2];decide),if_neg (by simp only [q3];decide),if_neg (by simp only [q4];decide),if_neg (by simp only [q5];decide),if_neg (by simp only [q6];decide),if_neg (by simp only [q7];decide),if_pos q8];exact rfl);go_wp2;refine bodyPost_ret (v:=zu1 ([107],[98],true)) (by simp[results,results31,go_sem,zu1]) rfl ⟨rfl,by rw[a.out]⟩
               |false=>
                 cases q9:((m++(⟨#[32]⟩:ByteArray)++n).toList==[115,101,116,32,114,101,109])with
                 |true=>
                   have a:Hid (zyw (m++(⟨#[32]⟩:ByteArray)++n).toList=([107],[98],true)):=(by unfold zyw;rw[if_neg (by simp only [q1];decide),if_neg (by simp only [q2];decide),if_neg (by simp only [q3];decide),if_neg (by simp only [q4];decide),if_neg (by simp only [q5];decide),if_neg (by simp only [q6];decide),if_neg (by simp only [q7];decide),if_neg (by simp only [q8];decide),if_pos q9];exact rfl);go_wp2;refine bodyPost_ret (v:=zu1 ([107],[98],true)) (by simp[results,results31,go_sem,zu1]) rfl ⟨rfl,by rw[a.out]⟩
                 |false=>
                   cases q10:((m++(⟨#[32]⟩:ByteArray)++n).toList==[115,101,116,32,104,97,115])with
                   |true=>
                     have a:Hid (zyw (m++(⟨#[32]⟩:ByteArray)++n).toList=([107],[98],true)):=(by unfold zyw;rw[if_neg (by simp only [q1];decide),if_neg (by simp only [q2];decide),if_neg (by simp only [q3];decide),if_neg (by simp only [q4];decide),if_neg (by simp only [q5];decide),if_neg (by simp only [q6];decide),if_neg (by simp only [q7];decide),if_neg (by simp only [q8];decide),if_neg (by simp only [q9];decide),if_pos q10];exact rfl);go_wp2;refine bodyPost_ret (v:=zu1 ([107],[98],true)) (by simp[results,results31,go_sem,zu1]) rfl ⟨rfl,by rw[a.out]⟩
                   |false=>
                     cases q11:((m++(⟨#[32]⟩:ByteArray)++n).toList==[113,117,101,117,101,32,100,101,113])with
                     |true=>
                       have a:Hid (zyw (m++(⟨#[32]⟩:ByteArray)++n).toList=([],[105,110],true)):=(by unfold zyw;rw[if_neg (by simp only [q1];decide),if_neg (by simp only [q2];decide),if_neg (by simp only [q3];decide),if_neg (by simp only [q4];decide),if_neg (by simp only [q5];decide),if_neg (by simp only [q6];decide),if_neg (by simp only [q7];decide),if_neg (by simp only [q8];decide),if_neg (by simp only [q9];decide),if_neg (by simp only [q10];decide),if_pos q11];exact rfl);go_wp2;refine bodyPost_ret (v:=zu1 ([],[105,110],true)) (by simp[results,results31,go_sem,zu1]) rfl ⟨rfl,by rw[a.out]⟩
                     |false=>
                       cases q12:((m++(⟨#[32]⟩:ByteArray)++n).toList==[108,111,99,107,32,97,99,113])with
                       |true=>
                         have a:Hid (zyw (m++(⟨#[32]⟩:ByteArray)++n).toList=([],[98],true)):=(by unfold zyw;rw[if_neg (by simp only [q1];decide),if_neg (by simp only [q2];decide),if_neg (by simp only [q3];decide),if_neg (by simp only [q4];decide),if_neg (by simp only [q5];decide),if_neg (by simp only [q6];decide),if_neg (by simp only [q7];decide),if_neg (by simp only [q8];decide),if_neg (by simp only [q9];decide),if_neg (by simp only [q10];decide),if_neg (by simp only [q11];decide),if_pos q12];exact rfl);go_wp2;refine bodyPost_ret (v:=zu1 ([],[98],true)) (by simp[results,results31,go_sem,zu1]) rfl ⟨rfl,by rw[a.out]⟩
                       |false=>
                         cases q13:((m++(⟨#[32]⟩:ByteArray)++n).toList==[108,111,99,107,32,114,101,108])with
                         |true=>
                           have a:Hid (zyw (m++(⟨#[32]⟩:ByteArray)++n).toList=([],[98],true)):=(by unfold zyw;rw[if_neg (by simp only [q1];decide),if_neg (by simp only [q2];decide),if_neg (by simp only [q3];decide),if_neg (by simp only [q4];decide),if_neg (by simp only [q5];decide),if_neg (by simp only [q6];decide),if_neg (by simp only [q7];decide),if_neg (by simp only [q8];decide),if_neg (by simp only [q9];decide),if_neg (by simp only [q10];decide),if_neg (by simp only [q11];decide),if_neg (by simp only [q12];decide),if_pos q13];exact rfl);go_wp2;refine bodyPost_ret (v:=zu1 ([],[98],true)) (by simp[results,results31,go_sem,zu1]) rfl ⟨rfl,by rw[a.out]⟩
                         |false=>
                           have a:Hid (zyw (m++(⟨#[32]⟩:ByteArray)++n).toList=([],[],false)):=(by unfold zyw;rw[if_neg (by simp only [q1];decide),if_neg (by simp only [q2];decide),if_neg (by simp only [q3];decide),if_neg (by simp only [q4];decide),if_neg (by simp only [q5];decide),if_neg (by simp only [q6];decide),if_neg (by simp only [q7];decide),if_neg (by simp only [q8];decide),if_neg (by simp only [q9];decide),if_neg (by simp only [q10];decide),if_neg (by simp only [q11];decide),if_neg (by simp only [q12];decide),if_neg (by simp only [q13];decide)];exact rfl);go_wp2;refine bodyPost_ret (v:=zu1 ([],[],false)) (by simp[results,results31,go_sem,zu1]) rfl ⟨rfl,by rw[a.out]⟩
def modTab:List (List UInt8):=[sReg,sKv,zsK,sSet,zyy]
def z9C:Array Value:=(modTab.map fun l=>Value.string ⟨l.toArray⟩).toArray
def Mods (w:World):Prop:=w.var? prog "linear/linearref.Models"=some z9C
theorem Mods.below {w w':World}(h:Mods w)(k:Below 10 w w'):Mods w':=var?_below k (show prog.globalNamed "linear/linearref.Models"=some 1 by kernel_rfl) (by omega) h
theorem Mods.blk {w:World}(h:Mods w):∃t f,w.heap[1]?=some (.cells z9C t f):=by
 unfold Mods World.var? at h;rw[show prog.globalNamed "linear/linearref.Models"=some 1 by kernel_rfl]at h;simp only [Option.bind_some]at h;split at h
 ·rename_i cs t f hb;exact⟨t,f,by rw[hb];simp at h;rw[h]⟩
 ·cases h
def z3t (s:List UInt8):List (List UInt8)→Bool
 | []=>false
 |x::t=>(x==s)||z3t s t
theorem zJJ (s:ByteArray)(w:World)(l:Mods w)(_hng:10≤w.heap.size):
 Calls prog 13 #[.string s] w fun e w'=>e=.returned (.bool (z3t s.toList modTab))∧w'=w:=by
 obtain⟨p,o,k⟩:=l.blk;go_enter func13,ntmps13;go_wp2;go_loop [3] (fun i=>∃j:Nat,j≤modTab.length∧i=.int .i64 j∧z3t s.toList (modTab.drop j)=z3t s.toList modTab) (fun i=>modTab.length-(intOf i).toNat)
 case atStart=>exact⟨0,Nat.zero_le _,rfl,rfl⟩
 case round=>
  obtain⟨j,n,rfl,hR⟩:=hrel;have a:Hid (z3t s.toList (modTab.drop j)=z3t s.toList modTab):=hR;clear hR;have m:=zBk k j;clear k;by_cases hlt:j<modTab.length
  ·have d:Hid (modTab.drop j=modTab[j]::modTab.drop (j+1)):=zKU _ j hlt;have h:(j:Int)<5:=(by simp[modTab]at hlt;omega);rw[show z9C[j]?=some (.string ⟨(modTab[j]).toArray⟩) by simp[z9C,hlt]]at m;generalize modTab[j]=x at*;cases hq:(x==s.toList)with
   |true=>
     have b:Hid (z3t s.toList modTab=true):=(by rw[←a.out,d.out];simp[z3t,hq,Hid]);clear a d;go_wp2;go_ret;exact⟨by rw[b.out];rfl,rfl⟩
   |false=>
     have b:Hid (z3t s.toList (modTab.drop (j+1))=z3t s.toList modTab):=(by rw[←a.out,d.out];simp[z3t,hq,Hid]);clear a d;go_wp2;go_round
     case rel=>exact⟨j+1,by omega,by go_num,b.out⟩
     case measure=>simp[intOf];omega
  ·have g:j=modTab.length:=(by omega);have b:Hid (z3t s.toList modTab=false):=(by rw[←a.out,g,List.drop_length];exact rfl);have h:¬(j:Int)<5:=(by simp[modTab]at hlt;omega);clear a g;go_wp2;go_ret;exact⟨by rw[b.out];rfl,rfl⟩
end Go.Proofs.YtoeoinpaidhmcaaGreatDoor
