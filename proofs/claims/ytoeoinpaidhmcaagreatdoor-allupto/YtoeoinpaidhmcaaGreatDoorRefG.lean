/- Several texts in one. -/
import Derived.Test.YtoeoinpaidhmcaaGreatDoorScanV
import Derived.BigRegion
import Derived.Laws.BytesArg
import Derived.Lib.RuneBytes
import Derived.Lib.Strings
set_option maxHeartbeats 9000000
set_option maxRecDepth 100000
namespace Go.Proofs.YtoeoinpaidhmcaaGreatDoor
open Tryz
open Go.RowKit
theorem zhG {s:ByteArray}{k:Nat}(h:k<s.size):(lets s).drop k=(s[k]).toNat::(lets s).drop (k+1):=zvH s k h
theorem zgM {s:ByteArray}{k:Nat}(h:s.size≤k):(lets s).drop k=[]:=List.drop_eq_nil_of_le (by simpa [lets]using h)
def zzN (l:List Nat):Int:=match four l with|some v=>v|none=> -1
theorem zWk {c:Int}(h:48≤c)(a:c≤57):hexV c=c-48∧hexB c=true:=by
 constructor
 ·unfold hexV;rw[if_pos ⟨h,a⟩]
 ·unfold hexB;simp;omega
theorem zy5 {c:Int}(h:97≤c)(a:c≤102):hexV c=c-97+10∧hexB c=true:=by
 constructor
 ·unfold hexV;rw[if_neg (by omega),if_pos ⟨h,a⟩]
 ·unfold hexB;simp;omega
theorem zF4 {c:Int}(h:65≤c)(a:c≤70):hexV c=c-65+10∧hexB c=true:=by
 constructor
 ·unfold hexV;rw[if_neg (by omega),if_neg (by omega),if_pos ⟨h,a⟩]
 ·unfold hexB;simp;omega
theorem zXX {c:Int}(a:¬(48≤c∧c≤57))(d:¬(97≤c∧c≤102))(b:¬(65≤c∧c≤70)):hexB c=false:=by
 unfold hexB;simp;omega
theorem z3m {L:List Nat}{F:Option Int}{a c x:Int}{m:Nat}(b:F=if hexB c then zyQ m (a*16+hexV c) L else none)(d:hexB c=true)(e:x=a*16+hexV c):zyQ m x L=F:=by rw[b,if_pos d,e]
theorem z1B {a c x:Int}{j:Nat}(d:0≤a)(h:a<16 ^ j)(b:x=a*16+hexV c):0≤x∧x<16 ^ (j+1):=by
 have:=zLt c;subst b;exact⟨by omega,zcG h this.1 this.2⟩
theorem zZb {F:Option Int}{a c:Int}{m:Nat}{L:List Nat}(b:F=if hexB c then zyQ m (a*16+hexV c) L else none)(d:hexB c=false):F=none:=by rw[b,d];rfl
theorem zFE (s:ByteArray)(k:Nat)(w:World)(y:s.size≤2000000)(A:k≤4000000):
 Calls prog 151 #[.string s,.int .i64 k] w fun e w'=>e=.returned (.int .i64 (zzN ((lets s).drop k)))∧w'=w:=by
 go_enter func151,ntmps151;go_wp2;go_loop [5,6] (fun n i=>∃(j:Nat) (a:Int),j≤4∧i=.int .i64 ((k+j:Nat):Int)∧n=.int .i64 a∧0≤a∧a<16 ^ j∧zyQ (4-j) a ((lets s).drop (k+j))=four ((lets s).drop k)) (fun _ i=>k+4-(intOf i).toNat)
 case atStart=>exact⟨0,0,by omega,by simp,rfl,by omega,by decide,rfl⟩
 case round=>
  obtain⟨j,a,z,rfl,rfl,m,l,q⟩:=hrel;have hR:Hid (zyQ (4-j) a ((lets s).drop (k+j))=four ((lets s).drop k)):=q;clear q;by_cases hlt:j<4
  ·have r:=zMp hlt l;have x:((k+j:Nat):Int)=(k:Int)+(j:Int):=(by omega);by_cases hin:k+j<s.size
   ·have p:=zhG hin;have v:(s[k+j]).toNat<256:=(s[k+j]).toNat_lt;have h:Hid (four ((lets s).drop k)=if hexB ((s[k+j]).toNat:Int)then zyQ (4-(j+1)) (a*16+hexV ((s[k+j]).toNat:Int)) ((lets s).drop (k+j+1))else none):=by
     rw[←hR.out,p,show 4-j=(4-(j+1))+1 by omega,zyQ];exact rfl
    clear hR p;have t:(k:Int)+(j:Int)<(s.size:Int):=(by omega);have u:(j:Int)<4:=(by omega);go_wp2
    ·have g:=zWk (c:=((s[k+j]).toNat:Int)) (by omega) (by omega);have d:16*a+((s[k+j]).toNat:Int)-48=a*16+hexV ((s[k+j]).toNat:Int):=(by rw[g.1];omega);have b:=z1B m l d;go_round
     case rel=>exact⟨j+1,_,by omega,by go_num,rfl,b.1,b.2,z3m h.out g.2 d⟩
     case measure=>simp[intOf];omega
    ·have g:=zy5 (c:=((s[k+j]).toNat:Int)) (by omega) (by omega);have d:16*a+((s[k+j]).toNat:Int)-97+10=a*16+hexV ((s[k+j]).toNat:Int):=(by rw[g.1];omega);have b:=z1B m l d;go_round
     case rel=>exact⟨j+1,_,by omega,by go_num,rfl,b.1,b.2,z3m h.out g.2 d⟩
     case measure=>simp[intOf];omega
    ·go_ret;exact⟨by unfold zzN;rw[zZb h.out (zXX (by omega) (by omega) (by omega))];rfl,rfl⟩
    ·have g:=zF4 (c:=((s[k+j]).toNat:Int)) (by omega) (by omega);have d:16*a+((s[k+j]).toNat:Int)-65+10=a*16+hexV ((s[k+j]).toNat:Int):=(by rw[g.1];omega);have b:=z1B m l d;go_round
     case rel=>exact⟨j+1,_,by omega,by go_num,rfl,b.1,b.2,z3m h.out g.2 d⟩
     case measure=>simp[intOf];omega
    ·go_ret;exact⟨by unfold zzN;rw[zZb h.out (zXX (by omega) (by omega) (by omega))];rfl,rfl⟩
    ·go_ret;exact⟨by unfold zzN;rw[zZb h.out (zXX (by omega) (by omega) (by omega))];rfl,rfl⟩
    ·go_ret;exact⟨by unfold zzN;rw[zZb h.out (zXX (by omega) (by omega) (by omega))];rfl,rfl⟩
   ·have o:Hid (four ((lets s).drop k)=none):=by
     rw[←hR.out,zgM (by omega),show 4-j=(3-j)+1 by omega];exact rfl
    clear hR;go_wp2;go_ret;exact⟨by unfold zzN;rw[o.out];rfl,rfl⟩
  ·obtain rfl:j=4:=(by omega);have o:Hid (four ((lets s).drop k)=some a):=(by rw[←hR.out];exact rfl);clear hR;go_wp2;go_ret;exact⟨by unfold zzN;rw[o.out];rfl,rfl⟩
theorem zlS (w:World)(a:List Int):∀i,i<a.length→(w.alloc (.cells (a.map (Value.int .u8)).toArray 5)).cell? ⟨w.heap.size,0+i,none⟩=some (.int .u8 (a.getD i 0)):=by
 intro i d;have b:(w.alloc (.cells (a.map (Value.int .u8)).toArray 5)).heap[w.heap.size]?=some (.cells (a.map (Value.int .u8)).toArray 5):=by
  show(w.heap.push _)[w.heap.size]?=_;simp
 rw[zBk b,Nat.zero_add];simp[zC d,List.getD]
theorem z6w (n:Int)(w:World)(g:0≤n)(d:n≤1114111)(b:n<55296∨57343<n):
 Calls prog 152 #[.int .i64 n] w fun e w'=>e=.returned (.string ⟨(Lib.encodeRune n).toArray⟩)∧Below w.heap.size w w':=by
 by_cases a1:n<128
 ·clear b;have a:=run_convert_bytes_arg (P:=prog) (w.alloc (.cells #[.int .u8 (n)] 5)) 216 5 underlying216 underlying5 w.heap.size 0 1 1 [n] rfl (zlS w [n]) 9 underlying9;rw[show strOfNums [n]=⟨(Lib.encodeRune n).toArray⟩ by unfold Lib.encodeRune;rw[Lib.encodeRuneZ_one g (by omega)];rfl]at a;go_enter func152,ntmps152;go_wp2;go_ret;exact⟨rfl,zA _ _⟩
 by_cases a2:n<2048
 ·clear b;have a:=run_convert_bytes_arg (P:=prog) (w.alloc (.cells #[.int .u8 (192+n/64),.int .u8 (128+n%64)] 5)) 216 5 underlying216 underlying5 w.heap.size 0 2 2 [192+n/64,128+n%64] rfl (zlS w [192+n/64,128+n%64]) 9 underlying9;rw[show strOfNums [192+n/64,128+n%64]=⟨(Lib.encodeRune n).toArray⟩ by unfold Lib.encodeRune;rw[Lib.encodeRuneZ_two (by omega) (by omega)];rfl]at a;go_enter func152,ntmps152;go_wp2;go_ret;exact⟨rfl,zA _ _⟩
 by_cases a3:n<65536
 ·have a:=run_convert_bytes_arg (P:=prog) (w.alloc (.cells #[.int .u8 (224+n/4096),.int .u8 (128+n/64%64),.int .u8 (128+n%64)] 5)) 216 5 underlying216 underlying5 w.heap.size 0 3 3 [224+n/4096,128+n/64%64,128+n%64] rfl (zlS w [224+n/4096,128+n/64%64,128+n%64]) 9 underlying9;rw[show strOfNums [224+n/4096,128+n/64%64,128+n%64]=⟨(Lib.encodeRune n).toArray⟩ by unfold Lib.encodeRune;rw[Lib.encodeRuneZ_three (by omega)];rfl]at a;clear b;go_enter func152,ntmps152;go_wp2;go_ret;exact⟨rfl,zA _ _⟩
 ·clear b;have a:=run_convert_bytes_arg (P:=prog) (w.alloc (.cells #[.int .u8 (240+n/262144),.int .u8 (128+n/4096%64),.int .u8 (128+n/64%64),.int .u8 (128+n%64)] 5)) 216 5 underlying216 underlying5 w.heap.size 0 4 4 [240+n/262144,128+n/4096%64,128+n/64%64,128+n%64] rfl (zlS w [240+n/262144,128+n/4096%64,128+n/64%64,128+n%64]) 9 underlying9;rw[show strOfNums [240+n/262144,128+n/4096%64,128+n/64%64,128+n%64]=⟨(Lib.encodeRune n).toArray⟩ by unfold Lib.encodeRune;rw[Lib.encodeRuneZ_four (by omega) d];rfl]at a;go_enter func152,ntmps152;go_wp2;go_ret;exact⟨rfl,zA _ _⟩
def zrv:Nat→Int→List Nat→Option Int
 |0,v,_=>some v
 |_+1,_,[]=>none
 |m+1,v,c::t=>if 128≤c∧c≤191 then zrv m (64*v+(c:Int)-128) t else none
def z5U (n least:Int)(o:Option Int):Int:=match o with
 |none=>0
 |some v=>if v<least∨1114111<v∨(55296≤v∧v≤57343)then 0 else n
def zZe:List Nat→Int
 | []=>0
 |b::t=>if b<128 then 1 else if 194≤b∧b<224 then z5U 2 128 (zrv 1 ((b:Int)-192) t)
   else if 224≤b∧b<240 then z5U 3 2048 (zrv 2 ((b:Int)-224) t)
   else if 240≤b∧b<245 then z5U 4 65536 (zrv 3 ((b:Int)-240) t)else 0
theorem zlD {v c:Int}{j:Nat}(b:0≤v)(h:v<32*64 ^ j)(d:128≤c)(a:c≤191):0≤64*v+c-128∧64*v+c-128<32*64 ^ (j+1):=by
 have:(64:Int) ^ (j+1)=64 ^ j*64:=by rw[Int.pow_succ]
 omega
theorem zsI {v:Int}{j:Nat}(a:j≤3)(h:v<32*64 ^ j):v<8388608:=by
 have:j=0∨j=1∨j=2∨j=3:=by omega
 rcases this with rfl|rfl|rfl|rfl<;>simp at h<;>omega
theorem zHy {n a v:Int}(h:v<a∨1114111<v∨(55296≤v∧v≤57343)):z5U n a (some v)=0:=by unfold z5U;simp only;rw[if_pos h]
theorem z9X {n a v:Int}(h:¬(v<a∨1114111<v∨(55296≤v∧v≤57343))):z5U n a (some v)=n:=by unfold z5U;simp only;rw[if_neg h]
theorem z3K (s:ByteArray)(k:Nat)(w:World)(M:s.size≤2000000)(N:k<s.size)(m:Nat)(l p:Int)(K:(m=1∧l=128∧p=192∧194≤(s[k]).toNat∧(s[k]).toNat<224)∨(m=2∧l=2048∧p=224∧224≤(s[k]).toNat∧(s[k]).toNat<240)∨(m=3∧l=65536∧p=240∧240≤(s[k]).toNat∧(s[k]).toNat<245)):
 Calls prog 116 #[.string s,.int .i64 k] w fun e w'=>e=.returned (.int .i64 (z5U ((m:Int)+1) l (zrv m (((s[k]).toNat:Int)-p) ((lets s).drop (k+1)))))∧w'=w:=by
 have L:(k:Int)<(s.size:Int):=by omega
 rcases K with ⟨rfl,rfl,rfl,C,G⟩|⟨rfl,rfl,rfl,C,G⟩|⟨rfl,rfl,rfl,C,G⟩
 ·have z:(194:Int)≤((s[k]).toNat:Int):=by omega
  have B:((s[k]).toNat:Int)<224:=by omega
  have J:decide (((s[k]).toNat:Int)<128)=false:=by simp;omega
  go_enter func116,ntmps116;go_wp2;go_loop [8,9] (fun vv i=>∃(j:Nat) (v:Int),j≤1∧i=.int .i64 ((k+1+j:Nat):Int)∧vv=.int .i64 v∧0≤v∧v<32*64 ^ j∧zrv (1-j) v ((lets s).drop (k+1+j))=zrv 1 (((s[k]).toNat:Int)-192) ((lets s).drop (k+1))) (fun _ i=>k+1+1-(intOf i).toNat)
  case atStart=>exact⟨0,_,by omega,by go_num,rfl,by omega,by simp;omega,rfl⟩
  case round=>
   obtain⟨j,v,I,rfl,rfl,r,g,x⟩:=hrel;have hR:Hid (zrv (1-j) v ((lets s).drop (k+1+j))=zrv 1 (((s[k]).toNat:Int)-192) ((lets s).drop (k+1))):=x;clear x;have F:=zsI (by omega) g;have H:((k+1+j:Nat):Int)=(k:Int)+1+(j:Int):=(by omega);by_cases hlt:j<1
   ·have D:(j:Int)<1:=(by omega);by_cases hin:k+1+j<s.size
    ·have u:(k:Int)+1+(j:Int)<(s.size:Int):=(by omega);have d:Hid (zrv 1 (((s[k]).toNat:Int)-192) ((lets s).drop (k+1))=if 128≤(s[k+1+j]).toNat∧(s[k+1+j]).toNat≤191 then zrv (1-(j+1)) (64*v+((s[k+1+j]).toNat:Int)-128) ((lets s).drop (k+1+j+1))else none):=by
      rw[←hR.out,zhG hin,show 1-j=(1-(j+1))+1 by omega,zrv];exact rfl
     clear hR;have E:(s[k+1+j]).toNat<256:=(s[k+1+j]).toNat_lt;by_cases hc:128≤(s[k+1+j]).toNat∧(s[k+1+j]).toNat≤191
     ·obtain⟨y,t⟩:=hc;have o:(128:Int)≤((s[k+1+j]).toNat:Int):=(by omega);have n:((s[k+1+j]).toNat:Int)≤191:=(by omega);have h:=zlD r g o n;have A:Hid (zrv (1-(j+1)) (64*v+((s[k+1+j]).toNat:Int)-128) ((lets s).drop (k+1+j+1))=zrv 1 (((s[k]).toNat:Int)-192) ((lets s).drop (k+1))):=(by rw[d.out,if_pos ⟨y,t⟩];exact rfl);have q:Hid (0≤64*v+((s[k+1+j]).toNat:Int)-128∧64*v+((s[k+1+j]).toNat:Int)-128<32*64 ^ (j+1)):=h;clear d h;go_wp2;go_round
      case rel=>exact⟨j+1,_,by omega,by go_num,rfl,q.out.1,q.out.2,A.out⟩
      case measure=>simp[intOf];omega
     ·have a:Hid (zrv 1 (((s[k]).toNat:Int)-192) ((lets s).drop (k+1))=none):=(by rw[d.out,if_neg hc];exact rfl);have b:((s[k+1+j]).toNat:Int)<128∨(191:Int)<((s[k+1+j]).toNat:Int):=(by omega);clear d hc;rcases b with b|b
      all_goals
       go_wp2;go_ret;exact⟨by rw[a.out];rfl,rfl⟩
    ·have a:Hid (zrv 1 (((s[k]).toNat:Int)-192) ((lets s).drop (k+1))=none):=by
      rw[←hR.out,zgM (by omega),show 1-j=(1-1-j)+1 by omega];exact rfl
     clear hR;have u:¬(k:Int)+1+(j:Int)<(s.size:Int):=(by omega);go_wp2;go_ret;exact⟨by rw[a.out];rfl,rfl⟩
   ·obtain rfl:j=1:=(by omega);have a:Hid (zrv 1 (((s[k]).toNat:Int)-192) ((lets s).drop (k+1))=some v):=(by rw[←hR.out];exact rfl);clear hR;by_cases hq:v<128∨1114111<v∨(55296≤v∧v≤57343)
    ·go_wp2
     all_goals go_ret
     all_goals refine⟨?_,rfl⟩
     all_goals rw[a.out,zHy hq]
     all_goals first
      | rfl
      | (exfalso;omega)
    ·go_wp2
     all_goals go_ret
     all_goals refine⟨?_,rfl⟩
     all_goals rw[a.out,z9X hq]
     all_goals first
      | rfl
      | (exfalso;omega)
 ·have z:(224:Int)≤((s[k]).toNat:Int):=by omega
  have B:((s[k]).toNat:Int)<240:=by omega
  have J:decide (((s[k]).toNat:Int)<128)=false:=by simp;omega
  go_enter func116,ntmps116;go_wp2;go_loop [8,9] (fun vv i=>∃(j:Nat) (v:Int),j≤2∧i=.int .i64 ((k+1+j:Nat):Int)∧vv=.int .i64 v∧0≤v∧v<32*64 ^ j∧zrv (2-j) v ((lets s).drop (k+1+j))=zrv 2 (((s[k]).toNat:Int)-224) ((lets s).drop (k+1))) (fun _ i=>k+1+2-(intOf i).toNat)
  case atStart=>exact⟨0,_,by omega,by go_num,rfl,by omega,by simp;omega,rfl⟩
  case round=>
   obtain⟨j,v,I,rfl,rfl,r,g,x⟩:=hrel;have hR:Hid (zrv (2-j) v ((lets s).drop (k+1+j))=zrv 2 (((s[k]).toNat:Int)-224) ((lets s).drop (k+1))):=x;clear x;have F:=zsI (by omega) g;have H:((k+1+j:Nat):Int)=(k:Int)+1+(j:Int):=(by omega);by_cases hlt:j<2
   ·have D:(j:Int)<2:=(by omega);by_cases hin:k+1+j<s.size
    ·have u:(k:Int)+1+(j:Int)<(s.size:Int):=(by omega);have d:Hid (zrv 2 (((s[k]).toNat:Int)-224) ((lets s).drop (k+1))=if 128≤(s[k+1+j]).toNat∧(s[k+1+j]).toNat≤191 then zrv (2-(j+1)) (64*v+((s[k+1+j]).toNat:Int)-128) ((lets s).drop (k+1+j+1))else none):=by
      rw[←hR.out,zhG hin,show 2-j=(2-(j+1))+1 by omega,zrv];exact rfl
     clear hR;have E:(s[k+1+j]).toNat<256:=(s[k+1+j]).toNat_lt;by_cases hc:128≤(s[k+1+j]).toNat∧(s[k+1+j]).toNat≤191
     ·obtain⟨y,t⟩:=hc;have o:(128:Int)≤((s[k+1+j]).toNat:Int):=(by omega);have n:((s[k+1+j]).toNat:Int)≤191:=(by omega);have h:=zlD r g o n;have A:Hid (zrv (2-(j+1)) (64*v+((s[k+1+j]).toNat:Int)-128) ((lets s).drop (k+1+j+1))=zrv 2 (((s[k]).toNat:Int)-224) ((lets s).drop (k+1))):=(by rw[d.out,if_pos ⟨y,t⟩];exact rfl);have q:Hid (0≤64*v+((s[k+1+j]).toNat:Int)-128∧64*v+((s[k+1+j]).toNat:Int)-128<32*64 ^ (j+1)):=h;clear d h;go_wp2;go_round
      case rel=>exact⟨j+1,_,by omega,by go_num,rfl,q.out.1,q.out.2,A.out⟩
      case measure=>simp[intOf];omega
     ·have a:Hid (zrv 2 (((s[k]).toNat:Int)-224) ((lets s).drop (k+1))=none):=(by rw[d.out,if_neg hc];exact rfl);have b:((s[k+1+j]).toNat:Int)<128∨(191:Int)<((s[k+1+j]).toNat:Int):=(by omega);clear d hc;rcases b with b|b
      all_goals
       go_wp2;go_ret;exact⟨by rw[a.out];rfl,rfl⟩
    ·have a:Hid (zrv 2 (((s[k]).toNat:Int)-224) ((lets s).drop (k+1))=none):=by
      rw[←hR.out,zgM (by omega),show 2-j=(2-1-j)+1 by omega];exact rfl
     clear hR;have u:¬(k:Int)+1+(j:Int)<(s.size:Int):=(by omega);go_wp2;go_ret;exact⟨by rw[a.out];rfl,rfl⟩
   ·obtain rfl:j=2:=(by omega);have a:Hid (zrv 2 (((s[k]).toNat:Int)-224) ((lets s).drop (k+1))=some v):=(by rw[←hR.out];exact rfl);clear hR;by_cases hq:v<2048∨1114111<v∨(55296≤v∧v≤57343)
    ·go_wp2
     all_goals go_ret
     all_goals refine⟨?_,rfl⟩
     all_goals rw[a.out,zHy hq]
     all_goals first
      | rfl
      | (exfalso;omega)
    ·go_wp2
     all_goals go_ret
     all_goals refine⟨?_,rfl⟩
     all_goals rw[a.out,z9X hq]
     all_goals first
      | rfl
      | (exfalso;omega)
 ·have z:(240:Int)≤((s[k]).toNat:Int):=by omega
  have B:((s[k]).toNat:Int)<245:=by omega
  have J:decide (((s[k]).toNat:Int)<128)=false:=by simp;omega
  go_enter func116,ntmps116;go_wp2;go_loop [8,9] (fun vv i=>∃(j:Nat) (v:Int),j≤3∧i=.int .i64 ((k+1+j:Nat):Int)∧vv=.int .i64 v∧0≤v∧v<32*64 ^ j∧zrv (3-j) v ((lets s).drop (k+1+j))=zrv 3 (((s[k]).toNat:Int)-240) ((lets s).drop (k+1))) (fun _ i=>k+1+3-(intOf i).toNat)
  case atStart=>exact⟨0,_,by omega,by go_num,rfl,by omega,by simp;omega,rfl⟩
  case round=>
   obtain⟨j,v,I,rfl,rfl,r,g,x⟩:=hrel;have hR:Hid (zrv (3-j) v ((lets s).drop (k+1+j))=zrv 3 (((s[k]).toNat:Int)-240) ((lets s).drop (k+1))):=x;clear x;have F:=zsI (by omega) g;have H:((k+1+j:Nat):Int)=(k:Int)+1+(j:Int):=(by omega);by_cases hlt:j<3
   ·have D:(j:Int)<3:=(by omega);by_cases hin:k+1+j<s.size
    ·have u:(k:Int)+1+(j:Int)<(s.size:Int):=(by omega);have d:Hid (zrv 3 (((s[k]).toNat:Int)-240) ((lets s).drop (k+1))=if 128≤(s[k+1+j]).toNat∧(s[k+1+j]).toNat≤191 then zrv (3-(j+1)) (64*v+((s[k+1+j]).toNat:Int)-128) ((lets s).drop (k+1+j+1))else none):=by
      rw[←hR.out,zhG hin,show 3-j=(3-(j+1))+1 by omega,zrv];exact rfl
     clear hR;have E:(s[k+1+j]).toNat<256:=(s[k+1+j]).toNat_lt;by_cases hc:128≤(s[k+1+j]).toNat∧(s[k+1+j]).toNat≤191
     ·obtain⟨y,t⟩:=hc;have o:(128:Int)≤((s[k+1+j]).toNat:Int):=(by omega);have n:((s[k+1+j]).toNat:Int)≤191:=(by omega);have h:=zlD r g o n;have A:Hid (zrv (3-(j+1)) (64*v+((s[k+1+j]).toNat:Int)-128) ((lets s).drop (k+1+j+1))=zrv 3 (((s[k]).toNat:Int)-240) ((lets s).drop (k+1))):=(by rw[d.out,if_pos ⟨y,t⟩];exact rfl);have q:Hid (0≤64*v+((s[k+1+j]).toNat:Int)-128∧64*v+((s[k+1+j]).toNat:Int)-128<32*64 ^ (j+1)):=h;clear d h;go_wp2;go_round
      case rel=>exact⟨j+1,_,by omega,by go_num,rfl,q.out.1,q.out.2,A.out⟩
      case measure=>simp[intOf];omega
     ·have a:Hid (zrv 3 (((s[k]).toNat:Int)-240) ((lets s).drop (k+1))=none):=(by rw[d.out,if_neg hc];exact rfl);have b:((s[k+1+j]).toNat:Int)<128∨(191:Int)<((s[k+1+j]).toNat:Int):=(by omega);clear d hc;rcases b with b|b
      all_goals
       go_wp2;go_ret;exact⟨by rw[a.out];rfl,rfl⟩
    ·have a:Hid (zrv 3 (((s[k]).toNat:Int)-240) ((lets s).drop (k+1))=none):=by
      rw[←hR.out,zgM (by omega),show 3-j=(3-1-j)+1 by omega];exact rfl
     clear hR;have u:¬(k:Int)+1+(j:Int)<(s.size:Int):=(by omega);go_wp2;go_ret;exact⟨by rw[a.out];rfl,rfl⟩
   ·obtain rfl:j=3:=(by omega);have a:Hid (zrv 3 (((s[k]).toNat:Int)-240) ((lets s).drop (k+1))=some v):=(by rw[←hR.out];exact rfl);clear hR;by_cases hq:v<65536∨1114111<v∨(55296≤v∧v≤57343)
    ·go_wp2
     all_goals go_ret
     all_goals refine⟨?_,rfl⟩
     all_goals rw[a.out,zHy hq]
     all_goals first
      | rfl
      | (exfalso;omega)
    ·go_wp2
     all_goals go_ret
     all_goals refine⟨?_,rfl⟩
     all_goals rw[a.out,z9X hq]
     all_goals first
      | rfl
      | (exfalso;omega)
theorem zPC (s:ByteArray)(k:Nat)(w:World)(b:s.size≤2000000)(a:k<s.size):
 Calls prog 116 #[.string s,.int .i64 k] w fun e w'=>e=.returned (.int .i64 (zZe ((lets s).drop k)))∧w'=w:=by
 have i:(s[k]).toNat<256:=(s[k]).toNat_lt;have g:(k:Int)<(s.size:Int):=by omega
 rw[zhG a];rw[zZe];by_cases h1:(s[k]).toNat<128
 ·rw[if_pos h1];have h:((s[k]).toNat:Int)<128:=by omega
  go_enter func116,ntmps116;go_wp2;go_ret;exact⟨rfl,rfl⟩
 rw[if_neg h1];by_cases h2:194≤(s[k]).toNat∧(s[k]).toNat<224
 ·rw[if_pos h2];exact z3K s k w b a 1 128 192 (Or.inl ⟨rfl,rfl,rfl,h2.1,h2.2⟩)
 rw[if_neg h2];by_cases h3:224≤(s[k]).toNat∧(s[k]).toNat<240
 ·rw[if_pos h3];exact z3K s k w b a 2 2048 224 (Or.inr (Or.inl ⟨rfl,rfl,rfl,h3.1,h3.2⟩))
 rw[if_neg h3];by_cases h4:240≤(s[k]).toNat∧(s[k]).toNat<245
 ·rw[if_pos h4];exact z3K s k w b a 3 65536 240 (Or.inr (Or.inr ⟨rfl,rfl,rfl,h4.1,h4.2⟩))
 rw[if_neg h4];have j:¬((s[k]).toNat:Int)<128:=by omega
 have d:((s[k]).toNat:Int)<194∨(245:Int)≤((s[k]).toNat:Int):=by omega
 clear h1 h2 h3 h4;rcases d with d|d
 all_goals
  go_enter func116,ntmps116;go_wp2;go_ret;exact⟨rfl,rfl⟩
def escR (l:List Nat):List UInt8×Int:=match zvTw l with|some (v,n)=>(Lib.encodeRune v,(n:Int)+1)|none=>([],0)
def fromL:List Nat:=[34,92,47,98,102,110,114,116]
def toL:List Int:=[34,92,47,8,12,10,13,9]
theorem zrR {c:Nat}{t:List Nat}(i:Nat)(h:i<8)(a:c=fromL.getD i 0):escR (c::t)=(Lib.encodeRune (toL.getD i 0),2):=by
 have:i=0∨i=1∨i=2∨i=3∨i=4∨i=5∨i=6∨i=7:=by omega
 rcases this with rfl|rfl|rfl|rfl|rfl|rfl|rfl|rfl<;>(simp[fromL]at a;subst a;rfl)
theorem zSx {c:Nat}{t:List Nat}(h:∀i,i<8→c≠fromL.getD i 0):escR (c::t)=if((c:Int)==117)then(match z2Bk t with|some (v,n)=>(Lib.encodeRune v,(n:Int)+2)|none=>([],0))else([],0):=by
 have o:=h 0 (by omega);have e:=h 1 (by omega);have b:=h 2 (by omega);have k:=h 3 (by omega);have d:=h 4 (by omega);have a:=h 5 (by omega);have r:=h 6 (by omega);have l:=h 7 (by omega);simp[fromL]at o e b k d a r l;unfold escR zvTw;have g:((c:Int)==34)=false:=by simp;omega
 have u:((c:Int)==92)=false:=by simp;omega
 have q:((c:Int)==47)=false:=by simp;omega
 have x:((c:Int)==98)=false:=by simp;omega
 have j:((c:Int)==102)=false:=by simp;omega
 have w:((c:Int)==110)=false:=by simp;omega
 have m:((c:Int)==114)=false:=by simp;omega
 have s:((c:Int)==116)=false:=by simp;omega
 simp only [g,u,q,x,j,w,m,s];by_cases hu:((c:Int)==117)=true
 ·simp only [hu,if_true,Bool.false_eq_true,if_false];cases z2Bk t with
  |none=>rfl
  |some p=>obtain⟨v,n⟩:=p;simp;omega
 ·simp[hu]
theorem z5A {x:Int}(a:0≤x)(b:x≤4611686018427387904):IntKind.i64.wrap x=x:=by
 simp[IntKind.wrap,IntKind.bits,IntKind.signed];omega
theorem zEQ (m:Nat):∀(j:Nat) (a:Int) (l:List Nat) (v:Int),0≤a→a<16 ^ j→zyQ m a l=some v→0≤v∧v<16 ^ (j+m):=by
 induction m with
 |zero=>intro j a l v e b h;simp[zyQ]at h;subst h;exact⟨e,b⟩
 |succ m ih=>
   intro j a l v e b h;cases l with
   |nil=>simp[zyQ]at h
   |cons c t=>
     rw[zyQ]at h;split at h
     ·have d:=zLt c;have:=ih (j+1) _ _ _ (by omega) (zcG b d.1 d.2) h;rw[show j+1+m=j+(m+1) by omega]at this;exact this
     ·cases h
theorem zab {l:List Nat}{v:Int}(h:four l=some v):0≤v∧v≤65535:=by
 have:=zEQ 4 0 0 l v (by omega) (by decide) h;simp at this;omega
theorem zsm (s:ByteArray)(k:Nat)(w:World)(H:s.size≤2000000)(hk:k<s.size):
 Calls prog 115 #[.string s,.int .i64 k] w fun e w'=>e=.returned (.tuple #[.string ⟨(escR ((lets s).drop (k+1))).1.toArray⟩,.int .i64 (escR ((lets s).drop (k+1))).2])∧Below w.heap.size w w':=by
 by_cases h1:k+1<s.size
 ·rw[zhG h1];have L:(k:Int)+1<(s.size:Int):=by omega
  have Z:(s[k+1]).toNat<256:=(s[k+1]).toNat_lt;have Y:IntKind.i64.wrap ((k:Int)+1)=(k:Int)+1:=z5A (by omega) (by omega);have S:((k:Int)+1).toNat=k+1:=by omega
  have X:(0:Int)≤(k:Int)+1:=by omega
  go_enter func115,ntmps115;go_wp2;go_loopw [8] (fun i wr=>∃j:Nat,j≤8∧i=.int .i64 j∧(∀i,i<j→(s[k+1]).toNat≠fromL.getD i 0)∧Below w.heap.size w wr) (fun i _=>8-(intOf i).toNat)
  case atStart=>exact⟨0,by omega,rfl,fun i o=>by omega,zD⟩
  case round=>
   obtain⟨j,hj,rfl,b,a⟩:=hrel;have M:j=0∨j=1∨j=2∨j=3∨j=4∨j=5∨j=6∨j=7∨j=8:=(by omega);rcases M with rfl|rfl|rfl|rfl|rfl|rfl|rfl|rfl|rfl
   ·by_cases hc:(s[k+1]).toNat=34
    ·have l:(((s[k+1]).toNat:Int)==(((⟨#[34,92,47,98,102,110,114,116]⟩:ByteArray)[0]).toNat:Int))=true:=(by show(((s[k+1]).toNat:Int)==34)=true;simp;omega);have d:Hid (escR ((s[k+1]).toNat::(lets s).drop (k+1+1))=(Lib.encodeRune (toL.getD 0 0),2)):=zrR 0 (by omega) hc;clear hc b;go_wp2;go_region;go_wp2;go_ret2;exact⟨by rw[d.out];rfl,a.drew⟩
    ·have l:(((s[k+1]).toNat:Int)==(((⟨#[34,92,47,98,102,110,114,116]⟩:ByteArray)[0]).toNat:Int))=false:=(by show(((s[k+1]).toNat:Int)==34)=false;simp;omega);have g:Hid (∀i,i<1→(s[k+1]).toNat≠fromL.getD i 0):=by
      intro i o;rcases Nat.lt_succ_iff_lt_or_eq.1 o with h|h
      ·exact b i h
      ·subst h;exact hc
     clear hc b;go_wp2;go_region;go_wp2;go_roundw
     case rel=>exact⟨1,by omega,by go_num,g.out,a.drew⟩
     case measure=>simp[intOf]
   ·by_cases hc:(s[k+1]).toNat=92
    ·have l:(((s[k+1]).toNat:Int)==(((⟨#[34,92,47,98,102,110,114,116]⟩:ByteArray)[1]).toNat:Int))=true:=(by show(((s[k+1]).toNat:Int)==92)=true;simp;omega);have d:Hid (escR ((s[k+1]).toNat::(lets s).drop (k+1+1))=(Lib.encodeRune (toL.getD 1 0),2)):=zrR 1 (by omega) hc;clear hc b;go_wp2;go_region;go_wp2;go_ret2;exact⟨by rw[d.out];rfl,a.drew⟩
    ·have l:(((s[k+1]).toNat:Int)==(((⟨#[34,92,47,98,102,110,114,116]⟩:ByteArray)[1]).toNat:Int))=false:=(by show(((s[k+1]).toNat:Int)==92)=false;simp;omega);have g:Hid (∀i,i<2→(s[k+1]).toNat≠fromL.getD i 0):=by
      intro i o;rcases Nat.lt_succ_iff_lt_or_eq.1 o with h|h
      ·exact b i h
      ·subst h;exact hc
     clear hc b;go_wp2;go_region;go_wp2;go_roundw
     case rel=>exact⟨2,by omega,by go_num,g.out,a.drew⟩
     case measure=>simp[intOf]
   ·by_cases hc:(s[k+1]).toNat=47
    ·have l:(((s[k+1]).toNat:Int)==(((⟨#[34,92,47,98,102,110,114,116]⟩:ByteArray)[2]).toNat:Int))=true:=(by show(((s[k+1]).toNat:Int)==47)=true;simp;omega);have d:Hid (escR ((s[k+1]).toNat::(lets s).drop (k+1+1))=(Lib.encodeRune (toL.getD 2 0),2)):=zrR 2 (by omega) hc;clear hc b;go_wp2;go_region;go_wp2;go_ret2;exact⟨by rw[d.out];rfl,a.drew⟩
    ·have l:(((s[k+1]).toNat:Int)==(((⟨#[34,92,47,98,102,110,114,116]⟩:ByteArray)[2]).toNat:Int))=false:=(by show(((s[k+1]).toNat:Int)==47)=false;simp;omega);have g:Hid (∀i,i<3→(s[k+1]).toNat≠fromL.getD i 0):=by
      intro i o;rcases Nat.lt_succ_iff_lt_or_eq.1 o with h|h
      ·exact b i h
      ·subst h;exact hc
     clear hc b;go_wp2;go_region;go_wp2;go_roundw
     case rel=>exact⟨3,by omega,by go_num,g.out,a.drew⟩
     case measure=>simp[intOf]
   ·by_cases hc:(s[k+1]).toNat=98
    ·have l:(((s[k+1]).toNat:Int)==(((⟨#[34,92,47,98,102,110,114,116]⟩:ByteArray)[3]).toNat:Int))=true:=(by show(((s[k+1]).toNat:Int)==98)=true;simp;omega);have d:Hid (escR ((s[k+1]).toNat::(lets s).drop (k+1+1))=(Lib.encodeRune (toL.getD 3 0),2)):=zrR 3 (by omega) hc;clear hc b;go_wp2;go_region;go_wp2;go_ret2;exact⟨by rw[d.out];rfl,a.drew⟩
    ·have l:(((s[k+1]).toNat:Int)==(((⟨#[34,92,47,98,102,110,114,116]⟩:ByteArray)[3]).toNat:Int))=false:=(by show(((s[k+1]).toNat:Int)==98)=false;simp;omega);have g:Hid (∀i,i<4→(s[k+1]).toNat≠fromL.getD i 0):=by
      intro i o;rcases Nat.lt_succ_iff_lt_or_eq.1 o with h|h
      ·exact b i h
      ·subst h;exact hc
     clear hc b;go_wp2;go_region;go_wp2;go_roundw
     case rel=>exact⟨4,by omega,by go_num,g.out,a.drew⟩
     case measure=>simp[intOf]
   ·by_cases hc:(s[k+1]).toNat=102
    ·have l:(((s[k+1]).toNat:Int)==(((⟨#[34,92,47,98,102,110,114,116]⟩:ByteArray)[4]).toNat:Int))=true:=(by show(((s[k+1]).toNat:Int)==102)=true;simp;omega);have d:Hid (escR ((s[k+1]).toNat::(lets s).drop (k+1+1))=(Lib.encodeRune (toL.getD 4 0),2)):=zrR 4 (by omega) hc;clear hc b;go_wp2;go_region;go_wp2;go_ret2;exact⟨by rw[d.out];rfl,a.drew⟩
    ·have l:(((s[k+1]).toNat:Int)==(((⟨#[34,92,47,98,102,110,114,116]⟩:ByteArray)[4]).toNat:Int))=false:=(by show(((s[k+1]).toNat:Int)==102)=false;simp;omega);have g:Hid (∀i,i<5→(s[k+1]).toNat≠fromL.getD i 0):=by
      intro i o;rcases Nat.lt_succ_iff_lt_or_eq.1 o with h|h
      ·exact b i h
      ·subst h;exact hc
     clear hc b;go_wp2;go_region;go_wp2;go_roundw
     case rel=>exact⟨5,by omega,by go_num,g.out,a.drew⟩
     case measure=>simp[intOf]
   ·by_cases hc:(s[k+1]).toNat=110
    ·have l:(((s[k+1]).toNat:Int)==(((⟨#[34,92,47,98,102,110,114,116]⟩:ByteArray)[5]).toNat:Int))=true:=(by show(((s[k+1]).toNat:Int)==110)=true;simp;omega);have d:Hid (escR ((s[k+1]).toNat::(lets s).drop (k+1+1))=(Lib.encodeRune (toL.getD 5 0),2)):=zrR 5 (by omega) hc;clear hc b;go_wp2;go_region;go_wp2;go_ret2;exact⟨by rw[d.out];rfl,a.drew⟩
    ·have l:(((s[k+1]).toNat:Int)==(((⟨#[34,92,47,98,102,110,114,116]⟩:ByteArray)[5]).toNat:Int))=false:=(by show(((s[k+1]).toNat:Int)==110)=false;simp;omega);have g:Hid (∀i,i<6→(s[k+1]).toNat≠fromL.getD i 0):=by
      intro i o;rcases Nat.lt_succ_iff_lt_or_eq.1 o with h|h
      ·exact b i h
      ·subst h;exact hc
     clear hc b;go_wp2;go_region;go_wp2;go_roundw
     case rel=>exact⟨6,by omega,by go_num,g.out,a.drew⟩
     case measure=>simp[intOf]
   ·by_cases hc:(s[k+1]).toNat=114
    ·have l:(((s[k+1]).toNat:Int)==(((⟨#[34,92,47,98,102,110,114,116]⟩:ByteArray)[6]).toNat:Int))=true:=(by show(((s[k+1]).toNat:Int)==114)=true;simp;omega);have d:Hid (escR ((s[k+1]).toNat::(lets s).drop (k+1+1))=(Lib.encodeRune (toL.getD 6 0),2)):=zrR 6 (by omega) hc;clear hc b;go_wp2;go_region;go_wp2;go_ret2;exact⟨by rw[d.out];rfl,a.drew⟩
    ·have l:(((s[k+1]).toNat:Int)==(((⟨#[34,92,47,98,102,110,114,116]⟩:ByteArray)[6]).toNat:Int))=false:=(by show(((s[k+1]).toNat:Int)==114)=false;simp;omega);have g:Hid (∀i,i<7→(s[k+1]).toNat≠fromL.getD i 0):=by
      intro i o;rcases Nat.lt_succ_iff_lt_or_eq.1 o with h|h
      ·exact b i h
      ·subst h;exact hc
     clear hc b;go_wp2;go_region;go_wp2;go_roundw
     case rel=>exact⟨7,by omega,by go_num,g.out,a.drew⟩
     case measure=>simp[intOf]
   ·by_cases hc:(s[k+1]).toNat=116
    ·have l:(((s[k+1]).toNat:Int)==(((⟨#[34,92,47,98,102,110,114,116]⟩:ByteArray)[7]).toNat:Int))=true:=(by show(((s[k+1]).toNat:Int)==116)=true;simp;omega);have d:Hid (escR ((s[k+1]).toNat::(lets s).drop (k+1+1))=(Lib.encodeRune (toL.getD 7 0),2)):=zrR 7 (by omega) hc;clear hc b;go_wp2;go_region;go_wp2;go_ret2;exact⟨by rw[d.out];rfl,a.drew⟩
    ·have l:(((s[k+1]).toNat:Int)==(((⟨#[34,92,47,98,102,110,114,116]⟩:ByteArray)[7]).toNat:Int))=false:=(by show(((s[k+1]).toNat:Int)==116)=false;simp;omega);have g:Hid (∀i,i<8→(s[k+1]).toNat≠fromL.getD i 0):=by
      intro i o;rcases Nat.lt_succ_iff_lt_or_eq.1 o with h|h
      ·exact b i h
      ·subst h;exact hc
     clear hc b;go_wp2;go_region;go_wp2;go_roundw
     case rel=>exact⟨8,by omega,by go_num,g.out,a.drew⟩
     case measure=>simp[intOf]
   ·have F:=zSx (t:=(lets s).drop (k+1+1)) b;have C:Hid (escR ((s[k+1]).toNat::(lets s).drop (k+1+1))=if(((s[k+1]).toNat:Int)==117)then(match z2Bk ((lets s).drop (k+1+1))with|some (v,n)=>(Lib.encodeRune v,(n:Int)+2)|none=>([],0))else([],0)):=F;clear F b;go_wp2_with fail;refine(zFE s (k+2) _ H (by omega)).mono ?_;rintro e w2 ⟨rfl,rfl⟩;by_cases hu:(s[k+1]).toNat=117
    ·have l:(((s[k+1]).toNat:Int) != 117)=false:=(by simp;omega);have D:(((s[k+1]).toNat:Int)==117)=true:=(by simp;omega);have p:Hid (escR ((s[k+1]).toNat::(lets s).drop (k+1+1))=(match z2Bk ((lets s).drop (k+2))with|some (v,n)=>(Lib.encodeRune v,(n:Int)+2)|none=>([],0))):=(by rw[C.out,if_pos D];exact rfl);clear C hu D;cases hF:four ((lets s).drop (k+2))with
     |none=>
       have d:Hid (escR ((s[k+1]).toNat::(lets s).drop (k+1+1))=([],0)):=by
        rw[p.out];unfold z2Bk;rw[hF];exact rfl
       rw[show zzN ((lets s).drop (k+2))= -1 by unfold zzN;rw[hF]];clear hF p;go_wp2;go_ret2;exact⟨by rw[d.out];rfl,a⟩
     |some v=>
       obtain⟨O,v1⟩:=zab hF;have z:Hid (z2Bk ((lets s).drop (k+2))=(if lowB v then none else if zDm v then
        (if eats [92,117] ((lets s).drop (k+6))then(match four ((lets s).drop (k+8))with
         |none=>none
         |some m=>if lowB m then some (65536+(v-55296)*1024+(m-56320),10)else none)else none)
        else some (v,4))):=by
        unfold z2Bk;rw[hF];simp only [List.drop_drop];exact rfl
       rw[show zzN ((lets s).drop (k+2))=v by unfold zzN;rw[hF]];clear hF;by_cases hlo:56320≤v∧v≤57343
       ·have d:Hid (escR ((s[k+1]).toNat::(lets s).drop (k+1+1))=([],0)):=by
         rw[p.out,z.out,if_pos (by simp[lowB];omega)];exact rfl
        clear p z;obtain⟨W,U⟩:=hlo;go_wp2;go_ret2;exact⟨by rw[d.out];rfl,a⟩
       ·have u:lowB v=false:=(by simp[lowB];omega);by_cases hhi:55296≤v∧v<56320
        ·obtain⟨aa,R⟩:=hhi;have r:Hid (escR ((s[k+1]).toNat::(lets s).drop (k+1+1))=(match (if eats [92,117] ((lets s).drop (k+6))then(match four ((lets s).drop (k+8))with
          |none=>none
          |some m=>if lowB m then some (65536+(v-55296)*1024+(m-56320),10)else none)else none:Option (Int×Nat))with|some (v,n)=>(Lib.encodeRune v,(n:Int)+2)|none=>([],0))):=by
          rw[p.out,z.out,if_neg (by simp[u]),if_pos (by simp[zDm];omega)];exact rfl
         clear p z u hlo;by_cases hA:k+7<s.size
         ·have G:(k:Int)+7<(s.size:Int):=(by omega);have y:Hid ((lets s).drop (k+6)=(s[k+6]).toNat::(s[k+7]).toNat::(lets s).drop (k+8)):=by
           rw[zhG (k:=k+6) (by omega),zhG (k:=k+6+1) (by omega)];exact rfl
          by_cases hB:(s[k+6]).toNat=92
          ·have I:(((s[k+6]).toNat:Int) != 92)=false:=(by simp;omega);by_cases hC:(s[k+7]).toNat=117
           ·have J:(((s[k+7]).toNat:Int) != 117)=false:=(by simp;omega);have q:Hid (escR ((s[k+1]).toNat::(lets s).drop (k+1+1))=(match (match four ((lets s).drop (k+8))with
             |none=>none
             |some m=>if lowB m then some (65536+(v-55296)*1024+(m-56320),10)else none:Option (Int×Nat))with|some (v,n)=>(Lib.encodeRune v,(n:Int)+2)|none=>([],0))):=by
             rw[r.out,y.out,if_pos (by simp[eats,hB,hC])];exact rfl
            clear r y hB hC;go_wp2_with fail;refine(zFE s (k+8) _ H (by omega)).mono ?_;rintro e P ⟨rfl,rfl⟩;cases hF2:four ((lets s).drop (k+8))with
            |none=>
              have d:Hid (escR ((s[k+1]).toNat::(lets s).drop (k+1+1))=([],0)):=(by rw[q.out,hF2];exact rfl);rw[show zzN ((lets s).drop (k+8))= -1 by unfold zzN;rw[hF2]];clear hF2 q;go_wp2;go_ret2;exact⟨by rw[d.out];rfl,a⟩
            |some m=>
              obtain⟨m0,m1⟩:=zab hF2;rw[show zzN ((lets s).drop (k+8))=m by unfold zzN;rw[hF2]];by_cases hm:56320≤m∧m≤57343
              ·obtain⟨V,Q⟩:=hm;have d:Hid (escR ((s[k+1]).toNat::(lets s).drop (k+1+1))=(Lib.encodeRune (65536+(v-55296)*1024+(m-56320)),12)):=by
                rw[q.out,hF2];simp only [show lowB m=true by simp[lowB];omega];exact rfl
               clear hF2 q;go_wp2_with fail;refine(z6w _ _ (by omega) (by omega) (by omega)).mono ?_;rintro e w4 ⟨rfl,N⟩;rw[show 65536+1024*(v-55296)+m-56320=65536+(v-55296)*1024+(m-56320) by omega];go_wp2;go_ret2;exact⟨by rw[d.out];rfl,a.trans (N.mono a.size)⟩
              ·have d:Hid (escR ((s[k+1]).toNat::(lets s).drop (k+1+1))=([],0)):=by
                rw[q.out,hF2];simp only [show lowB m=false by simp[lowB];omega];exact rfl
               have A:m<56320∨57343<m:=(by omega);clear hF2 q hm;rcases A with A|A
               all_goals
                go_wp2;go_ret2;exact⟨by rw[d.out];rfl,a⟩
           ·have J:(((s[k+7]).toNat:Int) != 117)=true:=(by simp;omega);have d:Hid (escR ((s[k+1]).toNat::(lets s).drop (k+1+1))=([],0)):=by
             rw[r.out,y.out,if_neg (by simp[eats];intro _;omega)];exact rfl
            clear r y hB hC;go_wp2;go_ret2;exact⟨by rw[d.out];rfl,a⟩
          ·have I:(((s[k+6]).toNat:Int) != 92)=true:=(by simp;omega);have d:Hid (escR ((s[k+1]).toNat::(lets s).drop (k+1+1))=([],0)):=by
            rw[r.out,y.out,if_neg (by simp[eats];intro h;omega)];exact rfl
           clear r y hB;go_wp2;go_ret2;exact⟨by rw[d.out];rfl,a⟩
         ·have G:¬(k:Int)+7<(s.size:Int):=(by omega);have d:Hid (escR ((s[k+1]).toNat::(lets s).drop (k+1+1))=([],0)):=by
           have E:((lets s).drop (k+6)).length≤1:=(by simp[lets];omega);rw[r.out,if_neg ?_]
           ·exact rfl
           ·match l:(lets s).drop (k+6),E with
            | [],_=>simp[eats]
            | [x],_=>simp[eats]
            |_::_::_,h=>simp at h
          clear r;go_wp2;go_ret2;exact⟨by rw[d.out];rfl,a⟩
        ·have d:Hid (escR ((s[k+1]).toNat::(lets s).drop (k+1+1))=(Lib.encodeRune v,6)):=by
          rw[p.out,z.out,if_neg (by simp[u]),if_neg (by simp[zDm];omega)];exact rfl
         clear p z u;have B:v<55296∨57343<v:=(by omega);clear hlo hhi;rcases B with B|B
         all_goals
          go_wp2_with fail;refine(z6w v _ O (by omega) (by omega)).mono ?_;rintro e P ⟨rfl,K⟩;go_wp2;go_ret2;exact⟨by rw[d.out];rfl,a.trans (K.mono a.size)⟩
    ·have l:(((s[k+1]).toNat:Int) != 117)=true:=(by simp;omega);have d:Hid (escR ((s[k+1]).toNat::(lets s).drop (k+1+1))=([],0)):=by
      rw[C.out,if_neg (by simp;omega)];exact rfl
     clear C hu;go_wp2;go_ret2;exact⟨by rw[d.out];rfl,a⟩
 ·rw[zgM (by omega)];have L:¬(k:Int)+1<(s.size:Int):=by omega
  go_enter func115,ntmps115;go_wp2;go_ret2;exact⟨rfl,zD⟩
def zU1 (l:List Nat):List UInt8:=l.map UInt8.ofNat
def z6V:Nat→List UInt8→List Nat→Option (List UInt8×List Nat)
 |0,_,_=>none
 |_+1,_,[]=>none
 |f+1,out,c::t=>if c=34 then some (out,t)else if c=92 then
    (match zvTw t with|none=>none|some (v,n)=>z6V f (out++Lib.encodeRune v) (t.drop n))
   else if zZe (c::t)=0∨c<32 then none else z6V f (out++zU1 ((c::t).take (zZe (c::t)).toNat)) ((c::t).drop (zZe (c::t)).toNat)
theorem bapp (a b:List UInt8):(⟨a.toArray⟩:ByteArray)++(⟨b.toArray⟩:ByteArray)=⟨(a++b).toArray⟩:=by
 apply ByteArray.ext;simp
theorem zln (l:List UInt8):zU1 (l.map (·.toNat))=l:=by
 unfold zU1
 induction l with
 |nil=>rfl
 |cons a t ih=>simp only [List.map_cons,ih];congr 1;exact UInt8.ofNat_toNat
theorem z5M (s:ByteArray)(j n:Nat):s.extract j (j+n)=⟨(zU1 (((lets s).drop j).take n)).toArray⟩:=by
 rw[Lib.extract_eq,show((lets s).drop j).take n=((s.data.toList.drop j).take n).map (·.toNat) by unfold lets;rw[List.map_take,List.map_drop],zln];congr 3;omega
theorem zVE {l:List Nat}{v:Int}{n:Nat}(h:z2Bk l=some (v,n)):1≤n∧n≤10:=by
 unfold z2Bk at h;split at h
 ·cases h
 ·split at h
  ·cases h
  ·split at h
   ·split at h
    ·split at h
     ·cases h
     ·split at h
      ·simp at h;omega
      ·cases h
    ·cases h
   ·simp at h;omega
theorem zf5 {l:List Nat}{v:Int}{n:Nat}(h:zvTw l=some (v,n)):1≤n∧n≤11:=by
 cases l with
 |nil=>cases h
 |cons c t=>
   unfold zvTw at h
   repeat' split at h
   all_goals first
    | (simp at h;omega)
    | (cases h;done)
    | (rename_i hq;simp at h;have:=zVE hq;omega)
theorem z6m (m:Nat):∀(v:Int) (l:List Nat) (x:Int),zrv m v l=some x→m≤l.length:=by
 induction m with
 |zero=>intro v l x _;omega
 |succ m ih=>
   intro v l x h;cases l with
   |nil=>simp[zrv]at h
   |cons c t=>
     rw[zrv]at h;split at h
     ·have:=ih _ _ _ h;simp;omega
     ·cases h
theorem zJw (n a:Int)(o:Option Int):z5U n a o=0∨(z5U n a o=n∧∃x,o=some x):=by
 cases o with
 |none=>left;rfl
 |some v=>
   by_cases h:v<a∨1114111<v∨(55296≤v∧v≤57343)
   ·left;exact zHy h
   ·right;exact⟨z9X h,v,rfl⟩
theorem z9Z (l:List Nat):0≤zZe l∧zZe l≤4∧(zZe l≠0→(zZe l).toNat≤l.length):=by
 cases l with
 |nil=>exact⟨by decide,by decide,fun h=>absurd rfl h⟩
 |cons b t=>
   rw[zZe];split
   ·exact⟨by decide,by decide,fun _=>by simp⟩
   ·split
    ·rcases zJw 2 128 (zrv 1 ((b:Int)-192) t)with h|⟨h,x,hx⟩
     ·rw[h];exact⟨by decide,by decide,fun h=>absurd rfl h⟩
     ·rw[h];have:=z6m _ _ _ _ hx;exact⟨by decide,by decide,fun _=>by simp;omega⟩
    ·split
     ·rcases zJw 3 2048 (zrv 2 ((b:Int)-224) t)with h|⟨h,x,hx⟩
      ·rw[h];exact⟨by decide,by decide,fun h=>absurd rfl h⟩
      ·rw[h];have:=z6m _ _ _ _ hx;exact⟨by decide,by decide,fun _=>by simp;omega⟩
     ·split
      ·rcases zJw 4 65536 (zrv 3 ((b:Int)-240) t)with h|⟨h,x,hx⟩
       ·rw[h];exact⟨by decide,by decide,fun h=>absurd rfl h⟩
       ·rw[h];have:=z6m _ _ _ _ hx;exact⟨by decide,by decide,fun _=>by simp;omega⟩
      ·exact⟨by decide,by decide,fun h=>absurd rfl h⟩
theorem quoted_any (s:ByteArray)(k:Nat)(w:World)(y:s.size≤2000000)(Q:k<s.size):
 Calls Tryz.prog 89 #[.string s,.int .i64 k] w fun e w'=>Below w.heap.size w w'∧
  ((∃v j,z6V (s.size+1) [] ((lets s).drop (k+1))=some (v,(lets s).drop j)∧k<j∧j≤s.size∧v.length≤4*s.size∧e=.returned (.tuple #[.string ⟨v.toArray⟩,.int .i64 (j:Int)]))∨
   (z6V (s.size+1) [] ((lets s).drop (k+1))=none∧e=.returned (.tuple #[.string ⟨#[]⟩,.int .i64 (-1)]))):=by
 go_enter Tryz.func89,Tryz.ntmps89;go_wp2;go_loopw [6,7] (fun o i wr=>∃(j f:Nat) (a:List UInt8),o=.string ⟨a.toArray⟩∧i=.int .i64 (j:Int)∧k<j∧j≤s.size+12∧s.size+2≤j+f∧a.length≤4*j∧z6V f a ((lets s).drop j)=z6V (s.size+1) [] ((lets s).drop (k+1))∧Below w.heap.size w wr) (fun _ i _=>s.size+12-(intOf i).toNat)
 case atStart=>exact⟨k+1,s.size+1,[],rfl,by go_num,by omega,by omega,by omega,by simp,rfl,zD⟩
 case round=>
  obtain⟨j,f,a,rfl,rfl,L,O,G,N,A,d⟩:=hrel;have hR:Hid (z6V f a ((lets s).drop j)=z6V (s.size+1) [] ((lets s).drop (k+1))):=A;clear A;by_cases hin:j<s.size
  ·obtain⟨f,rfl⟩:∃f',f=f'+1:=⟨f-1,by omega⟩;have q:(j:Int)<(s.size:Int):=(by omega);have K:(s[j]).toNat<256:=(s[j]).toNat_lt;have h:Hid ((lets s).drop j=(s[j]).toNat::(lets s).drop (j+1)):=zhG hin;by_cases h34:(s[j]).toNat=34
   ·have D:(((s[j]).toNat:Int) != 34)=false:=(by simp;omega);have b:Hid (z6V (s.size+1) [] ((lets s).drop (k+1))=some (a,(lets s).drop (j+1))):=(by rw[←hR.out,h.out,z6V,if_pos h34];exact rfl);clear hR h h34;go_wp2;go_ret2;exact⟨d,Or.inl ⟨a,j+1,b.out,by omega,by omega,by omega,rfl⟩⟩
   ·have D:(((s[j]).toNat:Int) != 34)=true:=(by simp;omega);by_cases h92:(s[j]).toNat=92
    ·have u:(((s[j]).toNat:Int)==92)=true:=(by simp;omega);have g:Hid (z6V (s.size+1) [] ((lets s).drop (k+1))=(match zvTw ((lets s).drop (j+1))with|none=>none|some (v,n)=>z6V f (a++Lib.encodeRune v) (((lets s).drop (j+1)).drop n))):=by
      rw[←hR.out,h.out,z6V,if_neg h34,if_pos h92];exact rfl
     clear hR h h34 h92;go_wp2_with fail;refine(zsm s j _ y hin).mono ?_;rintro e C ⟨rfl,x⟩;have l:=d.trans (x.mono d.size);cases hx:zvTw ((lets s).drop (j+1))with
     |none=>
       have b:Hid (z6V (s.size+1) [] ((lets s).drop (k+1))=none):=(by rw[g.out,hx];exact rfl);rw[show escR ((lets s).drop (j+1))=([],0) by unfold escR;rw[hx]];clear g hx;go_wp2;go_ret2;exact⟨l,Or.inr ⟨b.out,rfl⟩⟩
     |some p=>
       obtain⟨v,n⟩:=p;rw[show escR ((lets s).drop (j+1))=(Lib.encodeRune v,(n:Int)+1) by unfold escR;rw[hx]];have P:=zf5 hx;have b:Hid (z6V f (a++Lib.encodeRune v) ((lets s).drop (j+1+n))=z6V (s.size+1) [] ((lets s).drop (k+1))):=by
        rw[g.out,hx];simp only [List.drop_drop];trivial
       have H:(((n:Int)+1)==0)=false:=(by simp;omega);have B:=Lib.runeCells_le v;rw[Lib.runeCells_length]at B;clear g hx;go_wp2;go_roundw
       case rel=>exact⟨j+1+n,f,a++Lib.encodeRune v,by rw[bapp],by go_num,by omega,by omega,by omega,by simp;omega,b.out,l⟩
       case measure=>simp[intOf];omega
    ·have u:(((s[j]).toNat:Int)==92)=false:=(by simp;omega);have g:Hid (z6V (s.size+1) [] ((lets s).drop (k+1))=if zZe ((lets s).drop j)=0∨(s[j]).toNat<32 then none else z6V f (a++zU1 (((lets s).drop j).take (zZe ((lets s).drop j)).toNat)) (((lets s).drop j).drop (zZe ((lets s).drop j)).toNat)):=by
      rw[←hR.out,h.out,z6V,if_neg h34,if_neg h92];exact rfl
     clear hR h h34 h92;go_wp2_with fail;refine(zPC s j _ y hin).mono ?_;rintro e C ⟨rfl,rfl⟩;have m:=z9Z ((lets s).drop j);generalize zZe ((lets s).drop j)=n at*;by_cases hbad:n=0∨(s[j]).toNat<32
     ·have b:Hid (z6V (s.size+1) [] ((lets s).drop (k+1))=none):=(by rw[g.out,if_pos hbad];exact rfl);clear g;by_cases h0:n=0
      ·subst h0;clear hbad;go_wp2;go_ret2;exact⟨d,Or.inr ⟨b.out,rfl⟩⟩
      ·have z:(n==0)=false:=(by simpa using h0);have t:((s[j]).toNat:Int)<32:=(by omega);clear hbad h0;go_wp2;go_ret2;exact⟨d,Or.inr ⟨b.out,rfl⟩⟩
     ·have b:Hid (z6V f (a++zU1 (((lets s).drop j).take n.toNat)) (((lets s).drop j).drop n.toNat)=z6V (s.size+1) [] ((lets s).drop (k+1))):=(by rw[g.out,if_neg hbad];exact rfl);have z:(n==0)=false:=(by simp;omega);have t:¬((s[j]).toNat:Int)<32:=(by omega);have E:n.toNat≤s.size-j:=by
       have:=m.2.2 (by omega);simpa [lets]using this
      have I:n≤4:=m.2.1;have F:1≤n:=(by omega);have J:(j:Int)+n≤(s.size:Int):=(by omega);clear g hbad;go_wp2;have r:((j:Int)+n).toNat=j+n.toNat:=(by omega);have M:(zU1 (((lets s).drop j).take n.toNat)).length≤4:=(by simp[zU1];omega);go_roundw
      case rel=>exact⟨j+n.toNat,f,a++zU1 (((lets s).drop j).take n.toNat),by rw[r,z5M,bapp],by go_num,by omega,by omega,by omega,by simp only [zJ];omega,by rw[←List.drop_drop];exact b.out,d⟩
      case measure=>simp[intOf];omega
  ·have b:Hid (z6V (s.size+1) [] ((lets s).drop (k+1))=none):=by
    rw[←hR.out,zgM (by omega)];cases f<;>exact rfl
   have q:¬(j:Int)<(s.size:Int):=(by omega);clear hR;go_wp2;go_ret2;exact⟨d,Or.inr ⟨b.out,rfl⟩⟩
def hasP (c:Nat):List Nat→Bool
 | []=>false
 |x::t=>c==x||hasP c t
theorem has_any (s:ByteArray)(c:Nat)(w:World)(n:s.size≤9000000)(_hc:c<256):
 Calls prog 54 #[.string s,.int .u8 c] w fun e w'=>e=.returned (.bool (hasP c (lets s)))∧w'=w:=by
 go_enter func54,ntmps54;go_wp2;go_loop [5] (fun i=>∃(j:Nat),j≤s.size∧i=.int .i64 (j:Int)∧hasP c ((lets s).drop j)=hasP c (lets s)) (fun i=>s.size-(intOf i).toNat)
 case atStart=>exact⟨0,by omega,by simp,rfl⟩
 case round=>
  obtain⟨j,m,rfl,k⟩:=hrel;have hR:Hid (hasP c ((lets s).drop j)=hasP c (lets s)):=k;clear k;by_cases hin:j<s.size
  ·have h:=zhG hin;have l:(s[j]).toNat<256:=(s[j]).toNat_lt;have d:(j:Int)<(s.size:Int):=(by omega);have b:Hid (hasP c (lets s)=(c==(s[j]).toNat||hasP c ((lets s).drop (j+1)))):=by
    rw[←hR.out,h,hasP];exact rfl
   clear hR h;by_cases hq:(s[j]).toNat=c
   ·have g:(((s[j]).toNat:Int)==(c:Int))=true:=(by simp;omega);have a:Hid (hasP c (lets s)=true):=(by rw[b.out,hq];simp[Hid]);clear b;go_wp2;go_ret;exact⟨by rw[a.out];rfl,rfl⟩
   ·have g:(((s[j]).toNat:Int)==(c:Int))=false:=(by simp;omega);have a:Hid (hasP c ((lets s).drop (j+1))=hasP c (lets s)):=(by rw[b.out,show(c==(s[j]).toNat)=false by simp;omega];simp[Hid]);clear b;go_wp2;go_round
    case rel=>exact⟨j+1,by omega,by go_num,a.out⟩
    case measure=>simp[intOf];omega
  ·have a:Hid (hasP c (lets s)=false):=(by rw[←hR.out,zgM (by omega)];exact rfl);have d:¬(j:Int)<(s.size:Int):=(by omega);clear hR;go_wp2;go_ret;exact⟨by rw[a.out];rfl,rfl⟩
def zlt:Int→List Nat→Option Int
 |n,[]=>some n
 |n,c::t=>if(c:Int)-48<0∨9<(c:Int)-48 then none else if n<(-9223372036854775808+((c:Int)-48)).tdiv 10 then none else zlt (10*n-((c:Int)-48)) t
def z8T (minus:Bool)(t:List Nat):Int×Bool:=
 if t.length<1∨19<t.length∨(1<t.length∧t.headD 0=48)then(0,false)
 else match zlt 0 t with
  |none=>(0,false)
  |some n=>if minus then(n,true)else(if n= -9223372036854775808 then n else -n,decide (-9223372036854775808<n))
def zyu (l:List Nat):Int×Bool:=if l.headD 0=45 then z8T true l.tail else z8T false l
theorem zQP {s:ByteArray}(h:0<s.size):(lets s).headD 0=(s[0]).toNat:=by
 have:=zhG h;rw[List.drop_zero]at this;rw[this];rfl
theorem zSQ (s:ByteArray):(lets s).length=s.size:=by simp[lets]
theorem zZn {b:Bool}{t:ByteArray}(h:t.size<1∨19<t.size∨(1<t.size∧∃h:0<t.size,(t[0]).toNat=48)):z8T b (lets t)=(0,false):=by
 rw[z8T,if_pos];rw[zSQ];rcases h with h|h|⟨h,h',h''⟩
 ·exact Or.inl h
 ·exact Or.inr (Or.inl h)
 ·exact Or.inr (Or.inr ⟨h,by rw[zQP h',h'']⟩)
theorem zB2 {b:Bool}{t:ByteArray}(e:1≤t.size)(g:t.size≤19)(d:1<t.size→(t[0]).toNat=48→False):z8T b (lets t)=match zlt 0 (lets t)with
 |none=>(0,false)
 |some n=>if b then(n,true)else(if n= -9223372036854775808 then n else -n,decide (-9223372036854775808<n)):=by
 rw[z8T,if_neg];rw[zSQ];rintro(h|h|⟨h,a⟩)
 ·omega
 ·omega
 ·rw[zQP (by omega)]at a;exact d h a
theorem whole_any (s:ByteArray)(w:World)(I:s.size≤9000000):
 Calls prog 90 #[.string s] w fun e w'=>e=.returned (.tuple #[.int .i64 (zyu (lets s)).1,.bool (zyu (lets s)).2])∧w'=w:=by
 go_enter func90,ntmps90;by_cases h0:0<s.size
 ·have y:(s.size:Int) > 0:=by omega
  have H:(s[0]).toNat<256:=(s[0]).toNat_lt;by_cases hm:(s[0]).toNat=45
  ·have u:(((s[0]).toNat:Int)==45)=true:=(by simp;omega);have h:Hid (zyu (lets s)=z8T true (lets s).tail):=(by unfold zyu;rw[zQP h0,if_pos hm];exact rfl);have q:(lets s).tail=lets (s.extract 1 s.size):=(by rw[lets,lets,Lib.extract_data,←List.map_tail,←List.drop_one,List.take_of_length_le (by simp)]);have F:(s.extract 1 s.size).size=s.size-1:=(by simp);rw[q]at h;clear q;go_wp2
   all_goals (generalize s.extract 1 s.size=t at *)
   all_goals first
    | go_ret2
      refine⟨?_,rfl⟩;have b:zyu (lets s)=(0,false):=by
       rw[h.out];apply zZn
       first
        | (left;omega)
        | (right;left;omega)
        | (right;right;refine⟨by omega,by omega,?_⟩;rename_i hx;simp at hx;omega)
      rw[b];rfl
    | skip
   all_goals
    have d:Hid (zyu (lets s)=match zlt 0 (lets t)with|none=>(0,false)|some n=>(n,true)):=by
     rw[h.out,zB2]
     ·exact rfl
     ·omega
     ·omega
     ·intro z x
      first|omega|(rename_i hx;simp at hx;omega)
   all_goals clear h
   all_goals
    go_loop [5,6] (fun n i=>∃(j:Nat) (a:Int),j≤t.size∧i=.int .i64 (j:Int)∧n=.int .i64 a∧ -9223372036854775808≤a∧a≤0∧zlt a ((lets t).drop j)=zlt 0 (lets t)) (fun _ i=>t.size-(intOf i).toNat)
    case atStart=>exact⟨0,0,by omega,rfl,rfl,by omega,by omega,rfl⟩
    case round=>
     obtain⟨j,a,E,rfl,rfl,B,A,p⟩:=hrel;have hR:Hid (zlt a ((lets t).drop j)=zlt 0 (lets t)):=p;clear p;by_cases hin:j<t.size
     ·have o:=zhG hin;have r:(t[j]).toNat<256:=(t[j]).toNat_lt;have m:(j:Int)<(t.size:Int):=(by omega);have g:Hid (zlt 0 (lets t)=if((t[j]).toNat:Int)-48<0∨9<((t[j]).toNat:Int)-48 then none else if a<(-9223372036854775808+(((t[j]).toNat:Int)-48)).tdiv 10 then none else zlt (10*a-(((t[j]).toNat:Int)-48)) ((lets t).drop (j+1))):=by
       rw[←hR.out,o,zlt];exact rfl
      clear hR o;by_cases hd1:((t[j]).toNat:Int)-48<0
      ·have b:Hid (zyu (lets s)=(0,false)):=(by rw[d.out,g.out,if_pos (Or.inl hd1)];exact rfl);clear g d;go_wp2;go_ret2;exact⟨by rw[b.out];rfl,rfl⟩
      ·by_cases hd2:9<((t[j]).toNat:Int)-48
       ·have b:Hid (zyu (lets s)=(0,false)):=(by rw[d.out,g.out,if_pos (Or.inr hd2)];exact rfl);clear g d;go_wp2;go_ret2;exact⟨by rw[b.out];rfl,rfl⟩
       ·have D:(-9223372036854775808+(((t[j]).toNat:Int)-48)).tdiv 10= -((9223372036854775808-(((t[j]).toNat:Int)-48))/10):=by
         rw[show -9223372036854775808+(((t[j]).toNat:Int)-48)= -(9223372036854775808-(((t[j]).toNat:Int)-48)) by omega,Int.neg_tdiv,Int.tdiv_eq_ediv_of_nonneg (by omega)]
        by_cases hd3:a<(-9223372036854775808+(((t[j]).toNat:Int)-48)).tdiv 10
        ·have b:Hid (zyu (lets s)=(0,false)):=(by rw[d.out,g.out,if_neg (by omega),if_pos hd3];exact rfl);clear g d;go_wp2;go_ret2;exact⟨by rw[b.out];rfl,rfl⟩
        ·have b:Hid (zlt (10*a-(((t[j]).toNat:Int)-48)) ((lets t).drop (j+1))=zlt 0 (lets t)):=(by rw[g.out,if_neg (by omega),if_neg hd3];exact rfl);have C: -9223372036854775808≤10*a-(((t[j]).toNat:Int)-48):=(by omega);have v: -9223372036854775808≤10*a:=(by omega);clear g;go_wp2;go_round
         case rel=>exact⟨j+1,_,by omega,by go_num,by go_num,by omega,by omega,b.out⟩
         case measure=>simp[intOf];omega
     ·have m:¬(j:Int)<(t.size:Int):=(by omega);have l:zlt 0 (lets t)=some a:=(by rw[←hR.out,zgM (by omega),zlt]);clear hR;have b:Hid (zyu (lets s)=(a,true)):=(by rw[d.out,l];exact rfl);clear d l;go_wp2;go_ret2;exact⟨by rw[b.out];rfl,rfl⟩
  ·have u:(((s[0]).toNat:Int)==45)=false:=(by simp;omega);have h:Hid (zyu (lets s)=z8T false (lets s)):=(by unfold zyu;rw[zQP h0,if_neg hm];exact rfl);go_wp2
   all_goals first
    | go_ret2
      refine⟨?_,rfl⟩;have b:zyu (lets s)=(0,false):=by
       rw[h.out];apply zZn
       first
        | (left;omega)
        | (right;left;omega)
        | (right;right;refine⟨by omega,by omega,?_⟩;rename_i hx;simp at hx;omega)
      rw[b];rfl
    | skip
   all_goals
    have d:Hid (zyu (lets s)=match zlt 0 (lets s)with|none=>(0,false)|some n=>(if n= -9223372036854775808 then n else -n,decide (-9223372036854775808<n))):=by
     rw[h.out,zB2]
     ·exact rfl
     ·omega
     ·omega
     ·intro z x
      first|omega|(rename_i hx;simp at hx;omega)|(rename_i hx _;simp at hx;omega)|(rename_i hx _ _;simp at hx;omega)
   all_goals clear h
   all_goals
    go_loop [5,6] (fun n i=>∃(j:Nat) (a:Int),j≤s.size∧i=.int .i64 (j:Int)∧n=.int .i64 a∧ -9223372036854775808≤a∧a≤0∧zlt a ((lets s).drop j)=zlt 0 (lets s)) (fun _ i=>s.size-(intOf i).toNat)
    case atStart=>exact⟨0,0,by omega,rfl,rfl,by omega,by omega,rfl⟩
    case round=>
     obtain⟨j,a,E,rfl,rfl,B,A,p⟩:=hrel;have hR:Hid (zlt a ((lets s).drop j)=zlt 0 (lets s)):=p;clear p;by_cases hin:j<s.size
     ·have o:=zhG hin;have r:(s[j]).toNat<256:=(s[j]).toNat_lt;have m:(j:Int)<(s.size:Int):=(by omega);have g:Hid (zlt 0 (lets s)=if((s[j]).toNat:Int)-48<0∨9<((s[j]).toNat:Int)-48 then none else if a<(-9223372036854775808+(((s[j]).toNat:Int)-48)).tdiv 10 then none else zlt (10*a-(((s[j]).toNat:Int)-48)) ((lets s).drop (j+1))):=by
       rw[←hR.out,o,zlt];exact rfl
      clear hR o;by_cases hd1:((s[j]).toNat:Int)-48<0
      ·have b:Hid (zyu (lets s)=(0,false)):=(by rw[d.out,g.out,if_pos (Or.inl hd1)];exact rfl);clear g d;go_wp2;go_ret2;exact⟨by rw[b.out];rfl,rfl⟩
      ·by_cases hd2:9<((s[j]).toNat:Int)-48
       ·have b:Hid (zyu (lets s)=(0,false)):=(by rw[d.out,g.out,if_pos (Or.inr hd2)];exact rfl);clear g d;go_wp2;go_ret2;exact⟨by rw[b.out];rfl,rfl⟩
       ·have D:(-9223372036854775808+(((s[j]).toNat:Int)-48)).tdiv 10= -((9223372036854775808-(((s[j]).toNat:Int)-48))/10):=by
         rw[show -9223372036854775808+(((s[j]).toNat:Int)-48)= -(9223372036854775808-(((s[j]).toNat:Int)-48)) by omega,Int.neg_tdiv,Int.tdiv_eq_ediv_of_nonneg (by omega)]
        by_cases hd3:a<(-9223372036854775808+(((s[j]).toNat:Int)-48)).tdiv 10
        ·have b:Hid (zyu (lets s)=(0,false)):=(by rw[d.out,g.out,if_neg (by omega),if_pos hd3];exact rfl);clear g d;go_wp2;go_ret2;exact⟨by rw[b.out];rfl,rfl⟩
        ·have b:Hid (zlt (10*a-(((s[j]).toNat:Int)-48)) ((lets s).drop (j+1))=zlt 0 (lets s)):=(by rw[g.out,if_neg (by omega),if_neg hd3];exact rfl);have C: -9223372036854775808≤10*a-(((s[j]).toNat:Int)-48):=(by omega);have v: -9223372036854775808≤10*a:=(by omega);clear g;go_wp2;go_round
         case rel=>exact⟨j+1,_,by omega,by go_num,by go_num,by omega,by omega,b.out⟩
         case measure=>simp[intOf];omega
     ·have m:¬(j:Int)<(s.size:Int):=(by omega);have l:zlt 0 (lets s)=some a:=(by rw[←hR.out,zgM (by omega),zlt]);clear hR;by_cases hmin:a= -9223372036854775808
      ·subst hmin;have b:Hid (zyu (lets s)=(-9223372036854775808,false)):=(by rw[d.out,l];exact rfl);clear d l;go_wp2;go_ret2;rw[show wrap64 9223372036854775808= -9223372036854775808 by unfold wrap64;omega];exact⟨by rw[b.out];rfl,rfl⟩
      ·have b:Hid (zyu (lets s)=(-a,true)):=(by rw[d.out,l];simp[hmin,Hid];omega);have G: -9223372036854775808<a:=(by omega);clear d l hmin;go_wp2;go_ret2;exact⟨by rw[b.out];rfl,rfl⟩
 ·have y:¬(s.size:Int) > 0:=by omega
  have b:Hid (zyu (lets s)=(0,false)):=by
   rw[show lets s=[]from zgM (k:=0) (by omega)];exact rfl
  go_wp2;go_ret2;exact⟨by rw[b.out];rfl,rfl⟩
end Go.Proofs.YtoeoinpaidhmcaaGreatDoor
