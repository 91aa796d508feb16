/- Several texts in one. -/
import Derived.Test.YtbbkihekjdffpaaGreatDoorScanV
import Derived.BigRegion
import Derived.Laws.BytesArg
import Derived.Lib.RuneBytes
import Derived.Lib.Strings
set_option maxHeartbeats 9000000
set_option maxRecDepth 100000
namespace Go.Proofs.YtbbkihekjdffpaaGreatDoor
open Tryz
open Go.RowKit
theorem zhG {s:ByteArray}{k:Nat}(h:k<s.size):(lets s).drop k=(s[k]).toNat::(lets s).drop (k+1):=zvH s k h
theorem zgM {s:ByteArray}{k:Nat}(h:s.size≤k):(lets s).drop k=[]:=List.drop_eq_nil_of_le (by simpa [lets]using h)
def zzN (l:List Nat):Int:=match four l with|some v=>v|none=> -1
theorem zWk {c:Int}(h:48≤c)(h':c≤57):hexV c=c-48∧hexB c=true:=by
 constructor
 ·unfold hexV;rw[if_pos ⟨h,h'⟩]
 ·unfold hexB;simp;omega
theorem zy5 {c:Int}(h:97≤c)(h':c≤102):hexV c=c-97+10∧hexB c=true:=by
 constructor
 ·unfold hexV;rw[if_neg (by omega),if_pos ⟨h,h'⟩]
 ·unfold hexB;simp;omega
theorem zF4 {c:Int}(h:65≤c)(h':c≤70):hexV c=c-65+10∧hexB c=true:=by
 constructor
 ·unfold hexV;rw[if_neg (by omega),if_neg (by omega),if_pos ⟨h,h'⟩]
 ·unfold hexB;simp;omega
theorem zXX {c:Int}(h1:¬(48≤c∧c≤57))(h2:¬(97≤c∧c≤102))(h3:¬(65≤c∧c≤70)):hexB c=false:=by
 unfold hexB;simp;omega
theorem z3m {L:List Nat}{F:Option Int}{acc c x:Int}{m:Nat}(hS:F=if hexB c then zyQ m (acc*16+hexV c) L else none)(hb:hexB c=true)(hx:x=acc*16+hexV c):zyQ m x L=F:=by rw[hS,if_pos hb,hx]
theorem z1B {acc c x:Int}{j:Nat}(h0:0≤acc)(h:acc<16 ^ j)(hx:x=acc*16+hexV c):0≤x∧x<16 ^ (j+1):=by
 have:=zLt c;subst hx;exact⟨by omega,zcG h this.1 this.2⟩
theorem zZb {F:Option Int}{acc c:Int}{m:Nat}{L:List Nat}(hS:F=if hexB c then zyQ m (acc*16+hexV c) L else none)(hb:hexB c=false):F=none:=by rw[hS,hb];rfl
theorem zFE (s:ByteArray)(k:Nat)(w:World)(hs:s.size≤2000000)(hk:k≤4000000):
 Calls prog 181 #[.string s,.int .i64 k] w fun e w'=>e=.returned (.int .i64 (zzN ((lets s).drop k)))∧w'=w:=by
 go_enter func181,ntmps181;go_wp2;go_loop [5,6] (fun n i=>∃(j:Nat) (acc:Int),j≤4∧i=.int .i64 ((k+j:Nat):Int)∧n=.int .i64 acc∧0≤acc∧acc<16 ^ j∧zyQ (4-j) acc ((lets s).drop (k+j))=four ((lets s).drop k)) (fun _ i=>k+4-(intOf i).toNat)
 case atStart=>exact⟨0,0,by omega,by simp,rfl,by omega,by decide,rfl⟩
 case round=>
  obtain⟨j,acc,hj,rfl,rfl,ha0,ha1,HR⟩:=hrel;have hR:Hid (zyQ (4-j) acc ((lets s).drop (k+j))=four ((lets s).drop k)):=HR;clear HR;by_cases hlt:j<4
  ·have hab:=zMp hlt ha1;have ea:((k+j:Nat):Int)=(k:Int)+(j:Int):=(by omega);by_cases hin:k+j<s.size
   ·have hD:=zhG hin;have hcb:(s[k+j]).toNat<256:=(s[k+j]).toNat_lt;have hS:Hid (four ((lets s).drop k)=if hexB ((s[k+j]).toNat:Int)then zyQ (4-(j+1)) (acc*16+hexV ((s[k+j]).toNat:Int)) ((lets s).drop (k+j+1))else none):=by
     rw[←hR.out,hD,show 4-j=(4-(j+1))+1 by omega,zyQ];exact rfl
    clear hR hD;have hi1:(k:Int)+(j:Int)<(s.size:Int):=(by omega);have hi2:(j:Int)<4:=(by omega);go_wp2
    ·have hh:=zWk (c:=((s[k+j]).toNat:Int)) (by omega) (by omega);have hx:16*acc+((s[k+j]).toNat:Int)-48=acc*16+hexV ((s[k+j]).toNat:Int):=(by rw[hh.1];omega);have hbd:=z1B ha0 ha1 hx;go_round
     case rel=>exact⟨j+1,_,by omega,by go_num,rfl,hbd.1,hbd.2,z3m hS.out hh.2 hx⟩
     case measure=>simp[intOf];omega
    ·have hh:=zy5 (c:=((s[k+j]).toNat:Int)) (by omega) (by omega);have hx:16*acc+((s[k+j]).toNat:Int)-97+10=acc*16+hexV ((s[k+j]).toNat:Int):=(by rw[hh.1];omega);have hbd:=z1B ha0 ha1 hx;go_round
     case rel=>exact⟨j+1,_,by omega,by go_num,rfl,hbd.1,hbd.2,z3m hS.out hh.2 hx⟩
     case measure=>simp[intOf];omega
    ·go_ret;exact⟨by unfold zzN;rw[zZb hS.out (zXX (by omega) (by omega) (by omega))];rfl,rfl⟩
    ·have hh:=zF4 (c:=((s[k+j]).toNat:Int)) (by omega) (by omega);have hx:16*acc+((s[k+j]).toNat:Int)-65+10=acc*16+hexV ((s[k+j]).toNat:Int):=(by rw[hh.1];omega);have hbd:=z1B ha0 ha1 hx;go_round
     case rel=>exact⟨j+1,_,by omega,by go_num,rfl,hbd.1,hbd.2,z3m hS.out hh.2 hx⟩
     case measure=>simp[intOf];omega
    ·go_ret;exact⟨by unfold zzN;rw[zZb hS.out (zXX (by omega) (by omega) (by omega))];rfl,rfl⟩
    ·go_ret;exact⟨by unfold zzN;rw[zZb hS.out (zXX (by omega) (by omega) (by omega))];rfl,rfl⟩
    ·go_ret;exact⟨by unfold zzN;rw[zZb hS.out (zXX (by omega) (by omega) (by omega))];rfl,rfl⟩
   ·have hE:Hid (four ((lets s).drop k)=none):=by
     rw[←hR.out,zgM (by omega),show 4-j=(3-j)+1 by omega];exact rfl
    clear hR;go_wp2;go_ret;exact⟨by unfold zzN;rw[hE.out];rfl,rfl⟩
  ·obtain rfl:j=4:=(by omega);have hE:Hid (four ((lets s).drop k)=some acc):=(by rw[←hR.out];exact rfl);clear hR;go_wp2;go_ret;exact⟨by unfold zzN;rw[hE.out];rfl,rfl⟩
theorem zlS (w:World)(zs:List Int):∀i,i<zs.length→(w.alloc (.cells (zs.map (Value.int .u8)).toArray 5)).cell? ⟨w.heap.size,0+i,none⟩=some (.int .u8 (zs.getD i 0)):=by
 intro i hi;have hb:(w.alloc (.cells (zs.map (Value.int .u8)).toArray 5)).heap[w.heap.size]?=some (.cells (zs.map (Value.int .u8)).toArray 5):=by
  show(w.heap.push _)[w.heap.size]?=_;simp
 rw[zBk hb,Nat.zero_add];simp[zC hi,List.getD]
theorem z6w (n:Int)(w:World)(h0:0≤n)(h1:n≤1114111)(hs:n<55296∨57343<n):
 Calls prog 182 #[.int .i64 n] w fun e w'=>e=.returned (.string ⟨(Lib.encodeRune n).toArray⟩)∧Below w.heap.size w w':=by
 by_cases a1:n<128
 ·clear hs;have hcv:=run_convert_bytes_arg (P:=prog) (w.alloc (.cells #[.int .u8 (n)] 5)) 130 5 underlying130 underlying5 w.heap.size 0 1 1 [n] rfl (zlS w [n]) 9 underlying9;rw[show strOfNums [n]=⟨(Lib.encodeRune n).toArray⟩ by unfold Lib.encodeRune;rw[Lib.encodeRuneZ_one h0 (by omega)];rfl]at hcv;go_enter func182,ntmps182;go_wp2;go_ret;exact⟨rfl,zA _ _⟩
 by_cases a2:n<2048
 ·clear hs;have hcv:=run_convert_bytes_arg (P:=prog) (w.alloc (.cells #[.int .u8 (192+n/64),.int .u8 (128+n%64)] 5)) 130 5 underlying130 underlying5 w.heap.size 0 2 2 [192+n/64,128+n%64] rfl (zlS w [192+n/64,128+n%64]) 9 underlying9;rw[show strOfNums [192+n/64,128+n%64]=⟨(Lib.encodeRune n).toArray⟩ by unfold Lib.encodeRune;rw[Lib.encodeRuneZ_two (by omega) (by omega)];rfl]at hcv;go_enter func182,ntmps182;go_wp2;go_ret;exact⟨rfl,zA _ _⟩
 by_cases a3:n<65536
 ·have hcv:=run_convert_bytes_arg (P:=prog) (w.alloc (.cells #[.int .u8 (224+n/4096),.int .u8 (128+n/64%64),.int .u8 (128+n%64)] 5)) 130 5 underlying130 underlying5 w.heap.size 0 3 3 [224+n/4096,128+n/64%64,128+n%64] rfl (zlS w [224+n/4096,128+n/64%64,128+n%64]) 9 underlying9;rw[show strOfNums [224+n/4096,128+n/64%64,128+n%64]=⟨(Lib.encodeRune n).toArray⟩ by unfold Lib.encodeRune;rw[Lib.encodeRuneZ_three (by omega)];rfl]at hcv;clear hs;go_enter func182,ntmps182;go_wp2;go_ret;exact⟨rfl,zA _ _⟩
 ·clear hs;have hcv:=run_convert_bytes_arg (P:=prog) (w.alloc (.cells #[.int .u8 (240+n/262144),.int .u8 (128+n/4096%64),.int .u8 (128+n/64%64),.int .u8 (128+n%64)] 5)) 130 5 underlying130 underlying5 w.heap.size 0 4 4 [240+n/262144,128+n/4096%64,128+n/64%64,128+n%64] rfl (zlS w [240+n/262144,128+n/4096%64,128+n/64%64,128+n%64]) 9 underlying9;rw[show strOfNums [240+n/262144,128+n/4096%64,128+n/64%64,128+n%64]=⟨(Lib.encodeRune n).toArray⟩ by unfold Lib.encodeRune;rw[Lib.encodeRuneZ_four (by omega) h1];rfl]at hcv;go_enter func182,ntmps182;go_wp2;go_ret;exact⟨rfl,zA _ _⟩
def zrv:Nat→Int→List Nat→Option Int
 |0,v,_=>some v
 |_+1,_,[]=>none
 |m+1,v,c::t=>if 128≤c∧c≤191 then zrv m (64*v+(c:Int)-128) t else none
def z5U (n least:Int)(o:Option Int):Int:=match o with
 |none=>0
 |some v=>if v<least∨1114111<v∨(55296≤v∧v≤57343)then 0 else n
def zZe:List Nat→Int
 | []=>0
 |b::t=>if b<128 then 1 else if 194≤b∧b<224 then z5U 2 128 (zrv 1 ((b:Int)-192) t)
   else if 224≤b∧b<240 then z5U 3 2048 (zrv 2 ((b:Int)-224) t)
   else if 240≤b∧b<245 then z5U 4 65536 (zrv 3 ((b:Int)-240) t)else 0
theorem zlD {v c:Int}{j:Nat}(h0:0≤v)(h:v<32*64 ^ j)(hc:128≤c)(hc':c≤191):0≤64*v+c-128∧64*v+c-128<32*64 ^ (j+1):=by
 have:(64:Int) ^ (j+1)=64 ^ j*64:=by rw[Int.pow_succ]
 omega
theorem zsI {v:Int}{j:Nat}(hj:j≤3)(h:v<32*64 ^ j):v<8388608:=by
 have:j=0∨j=1∨j=2∨j=3:=by omega
 rcases this with rfl|rfl|rfl|rfl<;>simp at h<;>omega
theorem zHy {n least v:Int}(h:v<least∨1114111<v∨(55296≤v∧v≤57343)):z5U n least (some v)=0:=by unfold z5U;simp only;rw[if_pos h]
theorem z9X {n least v:Int}(h:¬(v<least∨1114111<v∨(55296≤v∧v≤57343))):z5U n least (some v)=n:=by unfold z5U;simp only;rw[if_neg h]
theorem z3K (s:ByteArray)(k:Nat)(w:World)(hs:s.size≤2000000)(hk:k<s.size)(m:Nat)(least base:Int)(hm:(m=1∧least=128∧base=192∧194≤(s[k]).toNat∧(s[k]).toNat<224)∨(m=2∧least=2048∧base=224∧224≤(s[k]).toNat∧(s[k]).toNat<240)∨(m=3∧least=65536∧base=240∧240≤(s[k]).toNat∧(s[k]).toNat<245)):
 Calls prog 165 #[.string s,.int .i64 k] w fun e w'=>e=.returned (.int .i64 (z5U ((m:Int)+1) least (zrv m (((s[k]).toNat:Int)-base) ((lets s).drop (k+1)))))∧w'=w:=by
 have hki:(k:Int)<(s.size:Int):=by omega
 rcases hm with ⟨rfl,rfl,rfl,hb0,hb1⟩|⟨rfl,rfl,rfl,hb0,hb1⟩|⟨rfl,rfl,rfl,hb0,hb1⟩
 ·have hb0':(194:Int)≤((s[k]).toNat:Int):=by omega
  have hb1':((s[k]).toNat:Int)<224:=by omega
  have hd:decide (((s[k]).toNat:Int)<128)=false:=by simp;omega
  go_enter func165,ntmps165;go_wp2;go_loop [8,9] (fun vv i=>∃(j:Nat) (v:Int),j≤1∧i=.int .i64 ((k+1+j:Nat):Int)∧vv=.int .i64 v∧0≤v∧v<32*64 ^ j∧zrv (1-j) v ((lets s).drop (k+1+j))=zrv 1 (((s[k]).toNat:Int)-192) ((lets s).drop (k+1))) (fun _ i=>k+1+1-(intOf i).toNat)
  case atStart=>exact⟨0,_,by omega,by go_num,rfl,by omega,by simp;omega,rfl⟩
  case round=>
   obtain⟨j,v,hj,rfl,rfl,hv0,hv1,HR⟩:=hrel;have hR:Hid (zrv (1-j) v ((lets s).drop (k+1+j))=zrv 1 (((s[k]).toNat:Int)-192) ((lets s).drop (k+1))):=HR;clear HR;have hvt:=zsI (by omega) hv1;have ea:((k+1+j:Nat):Int)=(k:Int)+1+(j:Int):=(by omega);by_cases hlt:j<1
   ·have hi2:(j:Int)<1:=(by omega);by_cases hin:k+1+j<s.size
    ·have hi1:(k:Int)+1+(j:Int)<(s.size:Int):=(by omega);have hS:Hid (zrv 1 (((s[k]).toNat:Int)-192) ((lets s).drop (k+1))=if 128≤(s[k+1+j]).toNat∧(s[k+1+j]).toNat≤191 then zrv (1-(j+1)) (64*v+((s[k+1+j]).toNat:Int)-128) ((lets s).drop (k+1+j+1))else none):=by
      rw[←hR.out,zhG hin,show 1-j=(1-(j+1))+1 by omega,zrv];exact rfl
     clear hR;have hcb:(s[k+1+j]).toNat<256:=(s[k+1+j]).toNat_lt;by_cases hc:128≤(s[k+1+j]).toNat∧(s[k+1+j]).toNat≤191
     ·obtain⟨hc0,hc1⟩:=hc;have hc0':(128:Int)≤((s[k+1+j]).toNat:Int):=(by omega);have hc1':((s[k+1+j]).toNat:Int)≤191:=(by omega);have hbd:=zlD hv0 hv1 hc0' hc1';have hT:Hid (zrv (1-(j+1)) (64*v+((s[k+1+j]).toNat:Int)-128) ((lets s).drop (k+1+j+1))=zrv 1 (((s[k]).toNat:Int)-192) ((lets s).drop (k+1))):=(by rw[hS.out,if_pos ⟨hc0,hc1⟩];exact rfl);have HB:Hid (0≤64*v+((s[k+1+j]).toNat:Int)-128∧64*v+((s[k+1+j]).toNat:Int)-128<32*64 ^ (j+1)):=hbd;clear hS hbd;go_wp2;go_round
      case rel=>exact⟨j+1,_,by omega,by go_num,rfl,HB.out.1,HB.out.2,hT.out⟩
      case measure=>simp[intOf];omega
     ·have hE:Hid (zrv 1 (((s[k]).toNat:Int)-192) ((lets s).drop (k+1))=none):=(by rw[hS.out,if_neg hc];exact rfl);have hcc:((s[k+1+j]).toNat:Int)<128∨(191:Int)<((s[k+1+j]).toNat:Int):=(by omega);clear hS hc;rcases hcc with hcc|hcc
      all_goals
       go_wp2;go_ret;exact⟨by rw[hE.out];rfl,rfl⟩
    ·have hE:Hid (zrv 1 (((s[k]).toNat:Int)-192) ((lets s).drop (k+1))=none):=by
      rw[←hR.out,zgM (by omega),show 1-j=(1-1-j)+1 by omega];exact rfl
     clear hR;have hi1:¬(k:Int)+1+(j:Int)<(s.size:Int):=(by omega);go_wp2;go_ret;exact⟨by rw[hE.out];rfl,rfl⟩
   ·obtain rfl:j=1:=(by omega);have hE:Hid (zrv 1 (((s[k]).toNat:Int)-192) ((lets s).drop (k+1))=some v):=(by rw[←hR.out];exact rfl);clear hR;by_cases hq:v<128∨1114111<v∨(55296≤v∧v≤57343)
    ·go_wp2
     all_goals go_ret
     all_goals refine⟨?_,rfl⟩
     all_goals rw[hE.out,zHy hq]
     all_goals first
      | rfl
      | (exfalso;omega)
    ·go_wp2
     all_goals go_ret
     all_goals refine⟨?_,rfl⟩
     all_goals rw[hE.out,z9X hq]
     all_goals first
      | rfl
      | (exfalso;omega)
 ·have hb0':(224:Int)≤((s[k]).toNat:Int):=by omega
  have hb1':((s[k]).toNat:Int)<240:=by omega
  have hd:decide (((s[k]).toNat:Int)<128)=false:=by simp;omega
  go_enter func165,ntmps165;go_wp2;go_loop [8,9] (fun vv i=>∃(j:Nat) (v:Int),j≤2∧i=.int .i64 ((k+1+j:Nat):Int)∧vv=.int .i64 v∧0≤v∧v<32*64 ^ j∧zrv (2-j) v ((lets s).drop (k+1+j))=zrv 2 (((s[k]).toNat:Int)-224) ((lets s).drop (k+1))) (fun _ i=>k+1+2-(intOf i).toNat)
  case atStart=>exact⟨0,_,by omega,by go_num,rfl,by omega,by simp;omega,rfl⟩
  case round=>
   obtain⟨j,v,hj,rfl,rfl,hv0,hv1,HR⟩:=hrel;have hR:Hid (zrv (2-j) v ((lets s).drop (k+1+j))=zrv 2 (((s[k]).toNat:Int)-224) ((lets s).drop (k+1))):=HR;clear HR;have hvt:=zsI (by omega) hv1;have ea:((k+1+j:Nat):Int)=(k:Int)+1+(j:Int):=(by omega);by_cases hlt:j<2
   ·have hi2:(j:Int)<2:=(by omega);by_cases hin:k+1+j<s.size
    ·have hi1:(k:Int)+1+(j:Int)<(s.size:Int):=(by omega);have hS:Hid (zrv 2 (((s[k]).toNat:Int)-224) ((lets s).drop (k+1))=if 128≤(s[k+1+j]).toNat∧(s[k+1+j]).toNat≤191 then zrv (2-(j+1)) (64*v+((s[k+1+j]).toNat:Int)-128) ((lets s).drop (k+1+j+1))else none):=by
      rw[←hR.out,zhG hin,show 2-j=(2-(j+1))+1 by omega,zrv];exact rfl
     clear hR;have hcb:(s[k+1+j]).toNat<256:=(s[k+1+j]).toNat_lt;by_cases hc:128≤(s[k+1+j]).toNat∧(s[k+1+j]).toNat≤191
     ·obtain⟨hc0,hc1⟩:=hc;have hc0':(128:Int)≤((s[k+1+j]).toNat:Int):=(by omega);have hc1':((s[k+1+j]).toNat:Int)≤191:=(by omega);have hbd:=zlD hv0 hv1 hc0' hc1';have hT:Hid (zrv (2-(j+1)) (64*v+((s[k+1+j]).toNat:Int)-128) ((lets s).drop (k+1+j+1))=zrv 2 (((s[k]).toNat:Int)-224) ((lets s).drop (k+1))):=(by rw[hS.out,if_pos ⟨hc0,hc1⟩];exact rfl);have HB:Hid (0≤64*v+((s[k+1+j]).toNat:Int)-128∧64*v+((s[k+1+j]).toNat:Int)-128<32*64 ^ (j+1)):=hbd;clear hS hbd;go_wp2;go_round
      case rel=>exact⟨j+1,_,by omega,by go_num,rfl,HB.out.1,HB.out.2,hT.out⟩
      case measure=>simp[intOf];omega
     ·have hE:Hid (zrv 2 (((s[k]).toNat:Int)-224) ((lets s).drop (k+1))=none):=(by rw[hS.out,if_neg hc];exact rfl);have hcc:((s[k+1+j]).toNat:Int)<128∨(191:Int)<((s[k+1+j]).toNat:Int):=(by omega);clear hS hc;rcases hcc with hcc|hcc
      all_goals
       go_wp2;go_ret;exact⟨by rw[hE.out];rfl,rfl⟩
    ·have hE:Hid (zrv 2 (((s[k]).toNat:Int)-224) ((lets s).drop (k+1))=none):=by
      rw[←hR.out,zgM (by omega),show 2-j=(2-1-j)+1 by omega];exact rfl
     clear hR;have hi1:¬(k:Int)+1+(j:Int)<(s.size:Int):=(by omega);go_wp2;go_ret;exact⟨by rw[hE.out];rfl,rfl⟩
   ·obtain rfl:j=2:=(by omega);have hE:Hid (zrv 2 (((s[k]).toNat:Int)-224) ((lets s).drop (k+1))=some v):=(by rw[←hR.out];exact rfl);clear hR;by_cases hq:v<2048∨1114111<v∨(55296≤v∧v≤57343)
    ·go_wp2
     all_goals go_ret
     all_goals refine⟨?_,rfl⟩
     all_goals rw[hE.out,zHy hq]
     all_goals first
      | rfl
      | (exfalso;omega)
    ·go_wp2
     all_goals go_ret
     all_goals refine⟨?_,rfl⟩
     all_goals rw[hE.out,z9X hq]
     all_goals first
      | rfl
      | (exfalso;omega)
 ·have hb0':(240:Int)≤((s[k]).toNat:Int):=by omega
  have hb1':((s[k]).toNat:Int)<245:=by omega
  have hd:decide (((s[k]).toNat:Int)<128)=false:=by simp;omega
  go_enter func165,ntmps165;go_wp2;go_loop [8,9] (fun vv i=>∃(j:Nat) (v:Int),j≤3∧i=.int .i64 ((k+1+j:Nat):Int)∧vv=.int .i64 v∧0≤v∧v<32*64 ^ j∧zrv (3-j) v ((lets s).drop (k+1+j))=zrv 3 (((s[k]).toNat:Int)-240) ((lets s).drop (k+1))) (fun _ i=>k+1+3-(intOf i).toNat)
  case atStart=>exact⟨0,_,by omega,by go_num,rfl,by omega,by simp;omega,rfl⟩
  case round=>
   obtain⟨j,v,hj,rfl,rfl,hv0,hv1,HR⟩:=hrel;have hR:Hid (zrv (3-j) v ((lets s).drop (k+1+j))=zrv 3 (((s[k]).toNat:Int)-240) ((lets s).drop (k+1))):=HR;clear HR;have hvt:=zsI (by omega) hv1;have ea:((k+1+j:Nat):Int)=(k:Int)+1+(j:Int):=(by omega);by_cases hlt:j<3
   ·have hi2:(j:Int)<3:=(by omega);by_cases hin:k+1+j<s.size
    ·have hi1:(k:Int)+1+(j:Int)<(s.size:Int):=(by omega);have hS:Hid (zrv 3 (((s[k]).toNat:Int)-240) ((lets s).drop (k+1))=if 128≤(s[k+1+j]).toNat∧(s[k+1+j]).toNat≤191 then zrv (3-(j+1)) (64*v+((s[k+1+j]).toNat:Int)-128) ((lets s).drop (k+1+j+1))else none):=by
      rw[←hR.out,zhG hin,show 3-j=(3-(j+1))+1 by omega,zrv];exact rfl
     clear hR;have hcb:(s[k+1+j]).toNat<256:=(s[k+1+j]).toNat_lt;by_cases hc:128≤(s[k+1+j]).toNat∧(s[k+1+j]).toNat≤191
     ·obtain⟨hc0,hc1⟩:=hc;have hc0':(128:Int)≤((s[k+1+j]).toNat:Int):=(by omega);have hc1':((s[k+1+j]).toNat:Int)≤191:=(by omega);have hbd:=zlD hv0 hv1 hc0' hc1';have hT:Hid (zrv (3-(j+1)) (64*v+((s[k+1+j]).toNat:Int)-128) ((lets s).drop (k+1+j+1))=zrv 3 (((s[k]).toNat:Int)-240) ((lets s).drop (k+1))):=(by rw[hS.out,if_pos ⟨hc0,hc1⟩];exact rfl);have HB:Hid (0≤64*v+((s[k+1+j]).toNat:Int)-128∧64*v+((s[k+1+j]).toNat:Int)-128<32*64 ^ (j+1)):=hbd;clear hS hbd;go_wp2;go_round
      case rel=>exact⟨j+1,_,by omega,by go_num,rfl,HB.out.1,HB.out.2,hT.out⟩
      case measure=>simp[intOf];omega
     ·have hE:Hid (zrv 3 (((s[k]).toNat:Int)-240) ((lets s).drop (k+1))=none):=(by rw[hS.out,if_neg hc];exact rfl);have hcc:((s[k+1+j]).toNat:Int)<128∨(191:Int)<((s[k+1+j]).toNat:Int):=(by omega);clear hS hc;rcases hcc with hcc|hcc
      all_goals
       go_wp2;go_ret;exact⟨by rw[hE.out];rfl,rfl⟩
    ·have hE:Hid (zrv 3 (((s[k]).toNat:Int)-240) ((lets s).drop (k+1))=none):=by
      rw[←hR.out,zgM (by omega),show 3-j=(3-1-j)+1 by omega];exact rfl
     clear hR;have hi1:¬(k:Int)+1+(j:Int)<(s.size:Int):=(by omega);go_wp2;go_ret;exact⟨by rw[hE.out];rfl,rfl⟩
   ·obtain rfl:j=3:=(by omega);have hE:Hid (zrv 3 (((s[k]).toNat:Int)-240) ((lets s).drop (k+1))=some v):=(by rw[←hR.out];exact rfl);clear hR;by_cases hq:v<65536∨1114111<v∨(55296≤v∧v≤57343)
    ·go_wp2
     all_goals go_ret
     all_goals refine⟨?_,rfl⟩
     all_goals rw[hE.out,zHy hq]
     all_goals first
      | rfl
      | (exfalso;omega)
    ·go_wp2
     all_goals go_ret
     all_goals refine⟨?_,rfl⟩
     all_goals rw[hE.out,z9X hq]
     all_goals first
      | rfl
      | (exfalso;omega)
theorem zPC (s:ByteArray)(k:Nat)(w:World)(hs:s.size≤2000000)(hk:k<s.size):
 Calls prog 165 #[.string s,.int .i64 k] w fun e w'=>e=.returned (.int .i64 (zZe ((lets s).drop k)))∧w'=w:=by
 have hcb:(s[k]).toNat<256:=(s[k]).toNat_lt;have hki:(k:Int)<(s.size:Int):=by omega
 rw[zhG hk];rw[zZe];by_cases h1:(s[k]).toNat<128
 ·rw[if_pos h1];have h1':((s[k]).toNat:Int)<128:=by omega
  go_enter func165,ntmps165;go_wp2;go_ret;exact⟨rfl,rfl⟩
 rw[if_neg h1];by_cases h2:194≤(s[k]).toNat∧(s[k]).toNat<224
 ·rw[if_pos h2];exact z3K s k w hs hk 1 128 192 (Or.inl ⟨rfl,rfl,rfl,h2.1,h2.2⟩)
 rw[if_neg h2];by_cases h3:224≤(s[k]).toNat∧(s[k]).toNat<240
 ·rw[if_pos h3];exact z3K s k w hs hk 2 2048 224 (Or.inr (Or.inl ⟨rfl,rfl,rfl,h3.1,h3.2⟩))
 rw[if_neg h3];by_cases h4:240≤(s[k]).toNat∧(s[k]).toNat<245
 ·rw[if_pos h4];exact z3K s k w hs hk 3 65536 240 (Or.inr (Or.inr ⟨rfl,rfl,rfl,h4.1,h4.2⟩))
 rw[if_neg h4];have g1:¬((s[k]).toNat:Int)<128:=by omega
 have g2:((s[k]).toNat:Int)<194∨(245:Int)≤((s[k]).toNat:Int):=by omega
 clear h1 h2 h3 h4;rcases g2 with g2|g2
 all_goals
  go_enter func165,ntmps165;go_wp2;go_ret;exact⟨rfl,rfl⟩
def escR (l:List Nat):List UInt8×Int:=match zvTw l with|some (v,n)=>(Lib.encodeRune v,(n:Int)+1)|none=>([],0)
def fromL:List Nat:=[34,92,47,98,102,110,114,116]
def toL:List Int:=[34,92,47,8,12,10,13,9]
theorem zrR {c:Nat}{t:List Nat}(i:Nat)(h:i<8)(hc:c=fromL.getD i 0):escR (c::t)=(Lib.encodeRune (toL.getD i 0),2):=by
 have:i=0∨i=1∨i=2∨i=3∨i=4∨i=5∨i=6∨i=7:=by omega
 rcases this with rfl|rfl|rfl|rfl|rfl|rfl|rfl|rfl<;>(simp[fromL]at hc;subst hc;rfl)
theorem zSx {c:Nat}{t:List Nat}(h:∀i,i<8→c≠fromL.getD i 0):escR (c::t)=if((c:Int)==117)then(match z2Bk t with|some (v,n)=>(Lib.encodeRune v,(n:Int)+2)|none=>([],0))else([],0):=by
 have h0:=h 0 (by omega);have h1:=h 1 (by omega);have h2:=h 2 (by omega);have h3:=h 3 (by omega);have h4:=h 4 (by omega);have h5:=h 5 (by omega);have h6:=h 6 (by omega);have h7:=h 7 (by omega);simp[fromL]at h0 h1 h2 h3 h4 h5 h6 h7;unfold escR zvTw;have e0:((c:Int)==34)=false:=by simp;omega
 have e1:((c:Int)==92)=false:=by simp;omega
 have e2:((c:Int)==47)=false:=by simp;omega
 have e3:((c:Int)==98)=false:=by simp;omega
 have e4:((c:Int)==102)=false:=by simp;omega
 have e5:((c:Int)==110)=false:=by simp;omega
 have e6:((c:Int)==114)=false:=by simp;omega
 have e7:((c:Int)==116)=false:=by simp;omega
 simp only [e0,e1,e2,e3,e4,e5,e6,e7];by_cases hu:((c:Int)==117)=true
 ·simp only [hu,if_true,Bool.false_eq_true,if_false];cases z2Bk t with
  |none=>rfl
  |some p=>obtain⟨v,n⟩:=p;simp;omega
 ·simp[hu]
theorem z5A {x:Int}(h0:0≤x)(h1:x≤4611686018427387904):IntKind.i64.wrap x=x:=by
 simp[IntKind.wrap,IntKind.bits,IntKind.signed];omega
theorem zEQ (m:Nat):∀(j:Nat) (acc:Int) (l:List Nat) (v:Int),0≤acc→acc<16 ^ j→zyQ m acc l=some v→0≤v∧v<16 ^ (j+m):=by
 induction m with
 |zero=>intro j acc l v h0 h1 h;simp[zyQ]at h;subst h;exact⟨h0,h1⟩
 |succ m ih=>
   intro j acc l v h0 h1 h;cases l with
   |nil=>simp[zyQ]at h
   |cons c t=>
     rw[zyQ]at h;split at h
     ·have hb:=zLt c;have:=ih (j+1) _ _ _ (by omega) (zcG h1 hb.1 hb.2) h;rw[show j+1+m=j+(m+1) by omega]at this;exact this
     ·cases h
theorem zab {l:List Nat}{v:Int}(h:four l=some v):0≤v∧v≤65535:=by
 have:=zEQ 4 0 0 l v (by omega) (by decide) h;simp at this;omega
theorem zsm (s:ByteArray)(k:Nat)(w:World)(hs:s.size≤2000000)(hk:k<s.size):
 Calls prog 164 #[.string s,.int .i64 k] w fun e w'=>e=.returned (.tuple #[.string ⟨(escR ((lets s).drop (k+1))).1.toArray⟩,.int .i64 (escR ((lets s).drop (k+1))).2])∧Below w.heap.size w w':=by
 by_cases h1:k+1<s.size
 ·rw[zhG h1];have h1':(k:Int)+1<(s.size:Int):=by omega
  have hcb:(s[k+1]).toNat<256:=(s[k+1]).toNat_lt;have hwr:IntKind.i64.wrap ((k:Int)+1)=(k:Int)+1:=z5A (by omega) (by omega);have htn:((k:Int)+1).toNat=k+1:=by omega
  have hnn:(0:Int)≤(k:Int)+1:=by omega
  go_enter func164,ntmps164;go_wp2;go_loopw [8] (fun i wr=>∃j:Nat,j≤8∧i=.int .i64 j∧(∀i,i<j→(s[k+1]).toNat≠fromL.getD i 0)∧Below w.heap.size w wr) (fun i _=>8-(intOf i).toNat)
  case atStart=>exact⟨0,by omega,rfl,fun i hi=>by omega,zD⟩
  case round=>
   obtain⟨j,hj,rfl,hno,hbl⟩:=hrel;have hjc:j=0∨j=1∨j=2∨j=3∨j=4∨j=5∨j=6∨j=7∨j=8:=(by omega);rcases hjc with rfl|rfl|rfl|rfl|rfl|rfl|rfl|rfl|rfl
   ·by_cases hc:(s[k+1]).toNat=34
    ·have hq:(((s[k+1]).toNat:Int)==(((⟨#[34,92,47,98,102,110,114,116]⟩:ByteArray)[0]).toNat:Int))=true:=(by show(((s[k+1]).toNat:Int)==34)=true;simp;omega);have hE:Hid (escR ((s[k+1]).toNat::(lets s).drop (k+1+1))=(Lib.encodeRune (toL.getD 0 0),2)):=zrR 0 (by omega) hc;clear hc hno;go_wp2;go_region;go_wp2;go_ret2;exact⟨by rw[hE.out];rfl,hbl.drew⟩
    ·have hq:(((s[k+1]).toNat:Int)==(((⟨#[34,92,47,98,102,110,114,116]⟩:ByteArray)[0]).toNat:Int))=false:=(by show(((s[k+1]).toNat:Int)==34)=false;simp;omega);have hno':Hid (∀i,i<1→(s[k+1]).toNat≠fromL.getD i 0):=by
      intro i hi;rcases Nat.lt_succ_iff_lt_or_eq.1 hi with h|h
      ·exact hno i h
      ·subst h;exact hc
     clear hc hno;go_wp2;go_region;go_wp2;go_roundw
     case rel=>exact⟨1,by omega,by go_num,hno'.out,hbl.drew⟩
     case measure=>simp[intOf]
   ·by_cases hc:(s[k+1]).toNat=92
    ·have hq:(((s[k+1]).toNat:Int)==(((⟨#[34,92,47,98,102,110,114,116]⟩:ByteArray)[1]).toNat:Int))=true:=(by show(((s[k+1]).toNat:Int)==92)=true;simp;omega);have hE:Hid (escR ((s[k+1]).toNat::(lets s).drop (k+1+1))=(Lib.encodeRune (toL.getD 1 0),2)):=zrR 1 (by omega) hc;clear hc hno;go_wp2;go_region;go_wp2;go_ret2;exact⟨by rw[hE.out];rfl,hbl.drew⟩
    ·have hq:(((s[k+1]).toNat:Int)==(((⟨#[34,92,47,98,102,110,114,116]⟩:ByteArray)[1]).toNat:Int))=false:=(by show(((s[k+1]).toNat:Int)==92)=false;simp;omega);have hno':Hid (∀i,i<2→(s[k+1]).toNat≠fromL.getD i 0):=by
      intro i hi;rcases Nat.lt_succ_iff_lt_or_eq.1 hi with h|h
      ·exact hno i h
      ·subst h;exact hc
     clear hc hno;go_wp2;go_region;go_wp2;go_roundw
     case rel=>exact⟨2,by omega,by go_num,hno'.out,hbl.drew⟩
     case measure=>simp[intOf]
   ·by_cases hc:(s[k+1]).toNat=47
    ·have hq:(((s[k+1]).toNat:Int)==(((⟨#[34,92,47,98,102,110,114,116]⟩:ByteArray)[2]).toNat:Int))=true:=(by show(((s[k+1]).toNat:Int)==47)=true;simp;omega);have hE:Hid (escR ((s[k+1]).toNat::(lets s).drop (k+1+1))=(Lib.encodeRune (toL.getD 2 0),2)):=zrR 2 (by omega) hc;clear hc hno;go_wp2;go_region;go_wp2;go_ret2;exact⟨by rw[hE.out];rfl,hbl.drew⟩
    ·have hq:(((s[k+1]).toNat:Int)==(((⟨#[34,92,47,98,102,110,114,116]⟩:ByteArray)[2]).toNat:Int))=false:=(by show(((s[k+1]).toNat:Int)==47)=false;simp;omega);have hno':Hid (∀i,i<3→(s[k+1]).toNat≠fromL.getD i 0):=by
      intro i hi;rcases Nat.lt_succ_iff_lt_or_eq.1 hi with h|h
      ·exact hno i h
      ·subst h;exact hc
     clear hc hno;go_wp2;go_region;go_wp2;go_roundw
     case rel=>exact⟨3,by omega,by go_num,hno'.out,hbl.drew⟩
     case measure=>simp[intOf]
   ·by_cases hc:(s[k+1]).toNat=98
    ·have hq:(((s[k+1]).toNat:Int)==(((⟨#[34,92,47,98,102,110,114,116]⟩:ByteArray)[3]).toNat:Int))=true:=(by show(((s[k+1]).toNat:Int)==98)=true;simp;omega);have hE:Hid (escR ((s[k+1]).toNat::(lets s).drop (k+1+1))=(Lib.encodeRune (toL.getD 3 0),2)):=zrR 3 (by omega) hc;clear hc hno;go_wp2;go_region;go_wp2;go_ret2;exact⟨by rw[hE.out];rfl,hbl.drew⟩
    ·have hq:(((s[k+1]).toNat:Int)==(((⟨#[34,92,47,98,102,110,114,116]⟩:ByteArray)[3]).toNat:Int))=false:=(by show(((s[k+1]).toNat:Int)==98)=false;simp;omega);have hno':Hid (∀i,i<4→(s[k+1]).toNat≠fromL.getD i 0):=by
      intro i hi;rcases Nat.lt_succ_iff_lt_or_eq.1 hi with h|h
      ·exact hno i h
      ·subst h;exact hc
     clear hc hno;go_wp2;go_region;go_wp2;go_roundw
     case rel=>exact⟨4,by omega,by go_num,hno'.out,hbl.drew⟩
     case measure=>simp[intOf]
   ·by_cases hc:(s[k+1]).toNat=102
    ·have hq:(((s[k+1]).toNat:Int)==(((⟨#[34,92,47,98,102,110,114,116]⟩:ByteArray)[4]).toNat:Int))=true:=(by show(((s[k+1]).toNat:Int)==102)=true;simp;omega);have hE:Hid (escR ((s[k+1]).toNat::(lets s).drop (k+1+1))=(Lib.encodeRune (toL.getD 4 0),2)):=zrR 4 (by omega) hc;clear hc hno;go_wp2;go_region;go_wp2;go_ret2;exact⟨by rw[hE.out];rfl,hbl.drew⟩
    ·have hq:(((s[k+1]).toNat:Int)==(((⟨#[34,92,47,98,102,110,114,116]⟩:ByteArray)[4]).toNat:Int))=false:=(by show(((s[k+1]).toNat:Int)==102)=false;simp;omega);have hno':Hid (∀i,i<5→(s[k+1]).toNat≠fromL.getD i 0):=by
      intro i hi;rcases Nat.lt_succ_iff_lt_or_eq.1 hi with h|h
      ·exact hno i h
      ·subst h;exact hc
     clear hc hno;go_wp2;go_region;go_wp2;go_roundw
     case rel=>exact⟨5,by omega,by go_num,hno'.out,hbl.drew⟩
     case measure=>simp[intOf]
   ·by_cases hc:(s[k+1]).toNat=110
    ·have hq:(((s[k+1]).toNat:Int)==(((⟨#[34,92,47,98,102,110,114,116]⟩:ByteArray)[5]).toNat:Int))=true:=(by show(((s[k+1]).toNat:Int)==110)=true;simp;omega);have hE:Hid (escR ((s[k+1]).toNat::(lets s).drop (k+1+1))=(Lib.encodeRune (toL.getD 5 0),2)):=zrR 5 (by omega) hc;clear hc hno;go_wp2;go_region;go_wp2;go_ret2;exact⟨by rw[hE.out];rfl,hbl.drew⟩
    ·have hq:(((s[k+1]).toNat:Int)==(((⟨#[34,92,47,98,102,110,114,116]⟩:ByteArray)[5]).toNat:Int))=false:=(by show(((s[k+1]).toNat:Int)==110)=false;simp;omega);have hno':Hid (∀i,i<6→(s[k+1]).toNat≠fromL.getD i 0):=by
      intro i hi;rcases Nat.lt_succ_iff_lt_or_eq.1 hi with h|h
      ·exact hno i h
      ·subst h;exact hc
     clear hc hno;go_wp2;go_region;go_wp2;go_roundw
     case rel=>exact⟨6,by omega,by go_num,hno'.out,hbl.drew⟩
     case measure=>simp[intOf]
   ·by_cases hc:(s[k+1]).toNat=114
    ·have hq:(((s[k+1]).toNat:Int)==(((⟨#[34,92,47,98,102,110,114,116]⟩:ByteArray)[6]).toNat:Int))=true:=(by show(((s[k+1]).toNat:Int)==114)=true;simp;omega);have hE:Hid (escR ((s[k+1]).toNat::(lets s).drop (k+1+1))=(Lib.encodeRune (toL.getD 6 0),2)):=zrR 6 (by omega) hc;clear hc hno;go_wp2;go_region;go_wp2;go_ret2;exact⟨by rw[hE.out];rfl,hbl.drew⟩
    ·have hq:(((s[k+1]).toNat:Int)==(((⟨#[34,92,47,98,102,110,114,116]⟩:ByteArray)[6]).toNat:Int))=false:=(by show(((s[k+1]).toNat:Int)==114)=false;simp;omega);have hno':Hid (∀i,i<7→(s[k+1]).toNat≠fromL.getD i 0):=by
      intro i hi;rcases Nat.lt_succ_iff_lt_or_eq.1 hi with h|h
      ·exact hno i h
      ·subst h;exact hc
     clear hc hno;go_wp2;go_region;go_wp2;go_roundw
     case rel=>exact⟨7,by omega,by go_num,hno'.out,hbl.drew⟩
     case measure=>simp[intOf]
   ·by_cases hc:(s[k+1]).toNat=116
    ·have hq:(((s[k+1]).toNat:Int)==(((⟨#[34,92,47,98,102,110,114,116]⟩:ByteArray)[7]).toNat:Int))=true:=(by show(((s[k+1]).toNat:Int)==116)=true;simp;omega);have hE:Hid (escR ((s[k+1]).toNat::(lets s).drop (k+1+1))=(Lib.encodeRune (toL.getD 7 0),2)):=zrR 7 (by omega) hc;clear hc hno;go_wp2;go_region;go_wp2;go_ret2;exact⟨by rw[hE.out];rfl,hbl.drew⟩
    ·have hq:(((s[k+1]).toNat:Int)==(((⟨#[34,92,47,98,102,110,114,116]⟩:ByteArray)[7]).toNat:Int))=false:=(by show(((s[k+1]).toNat:Int)==116)=false;simp;omega);have hno':Hid (∀i,i<8→(s[k+1]).toNat≠fromL.getD i 0):=by
      intro i hi;rcases Nat.lt_succ_iff_lt_or_eq.1 hi with h|h
      ·exact hno i h
      ·subst h;exact hc
     clear hc hno;go_wp2;go_region;go_wp2;go_roundw
     case rel=>exact⟨8,by omega,by go_num,hno'.out,hbl.drew⟩
     case measure=>simp[intOf]
   ·have hX:=zSx (t:=(lets s).drop (k+1+1)) hno;have HX:Hid (escR ((s[k+1]).toNat::(lets s).drop (k+1+1))=if(((s[k+1]).toNat:Int)==117)then(match z2Bk ((lets s).drop (k+1+1))with|some (v,n)=>(Lib.encodeRune v,(n:Int)+2)|none=>([],0))else([],0)):=hX;clear hX hno;go_wp2_with fail;refine(zFE s (k+2) _ hs (by omega)).mono ?_;rintro e w2 ⟨rfl,rfl⟩;by_cases hu:(s[k+1]).toNat=117
    ·have hq:(((s[k+1]).toNat:Int) != 117)=false:=(by simp;omega);have hq2:(((s[k+1]).toNat:Int)==117)=true:=(by simp;omega);have HX2:Hid (escR ((s[k+1]).toNat::(lets s).drop (k+1+1))=(match z2Bk ((lets s).drop (k+2))with|some (v,n)=>(Lib.encodeRune v,(n:Int)+2)|none=>([],0))):=(by rw[HX.out,if_pos hq2];exact rfl);clear HX hu hq2;cases hF:four ((lets s).drop (k+2))with
     |none=>
       have hE:Hid (escR ((s[k+1]).toNat::(lets s).drop (k+1+1))=([],0)):=by
        rw[HX2.out];unfold z2Bk;rw[hF];exact rfl
       rw[show zzN ((lets s).drop (k+2))= -1 by unfold zzN;rw[hF]];clear hF HX2;go_wp2;go_ret2;exact⟨by rw[hE.out];rfl,hbl⟩
     |some v=>
       obtain⟨v0,v1⟩:=zab hF;have hN:Hid (z2Bk ((lets s).drop (k+2))=(if lowB v then none else if zDm v then
        (if eats [92,117] ((lets s).drop (k+6))then(match four ((lets s).drop (k+8))with
         |none=>none
         |some m=>if lowB m then some (65536+(v-55296)*1024+(m-56320),10)else none)else none)
        else some (v,4))):=by
        unfold z2Bk;rw[hF];simp only [List.drop_drop];exact rfl
       rw[show zzN ((lets s).drop (k+2))=v by unfold zzN;rw[hF]];clear hF;by_cases hlo:56320≤v∧v≤57343
       ·have hE:Hid (escR ((s[k+1]).toNat::(lets s).drop (k+1+1))=([],0)):=by
         rw[HX2.out,hN.out,if_pos (by simp[lowB];omega)];exact rfl
        clear HX2 hN;obtain⟨hl0,hl1⟩:=hlo;go_wp2;go_ret2;exact⟨by rw[hE.out];rfl,hbl⟩
       ·have hlb:lowB v=false:=(by simp[lowB];omega);by_cases hhi:55296≤v∧v<56320
        ·obtain⟨hh0,hh1⟩:=hhi;have hH:Hid (escR ((s[k+1]).toNat::(lets s).drop (k+1+1))=(match (if eats [92,117] ((lets s).drop (k+6))then(match four ((lets s).drop (k+8))with
          |none=>none
          |some m=>if lowB m then some (65536+(v-55296)*1024+(m-56320),10)else none)else none:Option (Int×Nat))with|some (v,n)=>(Lib.encodeRune v,(n:Int)+2)|none=>([],0))):=by
          rw[HX2.out,hN.out,if_neg (by simp[hlb]),if_pos (by simp[zDm];omega)];exact rfl
         clear HX2 hN hlb hlo;by_cases hA:k+7<s.size
         ·have hA':(k:Int)+7<(s.size:Int):=(by omega);have hD:Hid ((lets s).drop (k+6)=(s[k+6]).toNat::(s[k+7]).toNat::(lets s).drop (k+8)):=by
           rw[zhG (k:=k+6) (by omega),zhG (k:=k+6+1) (by omega)];exact rfl
          by_cases hB:(s[k+6]).toNat=92
          ·have hB':(((s[k+6]).toNat:Int) != 92)=false:=(by simp;omega);by_cases hC:(s[k+7]).toNat=117
           ·have hC':(((s[k+7]).toNat:Int) != 117)=false:=(by simp;omega);have hH2:Hid (escR ((s[k+1]).toNat::(lets s).drop (k+1+1))=(match (match four ((lets s).drop (k+8))with
             |none=>none
             |some m=>if lowB m then some (65536+(v-55296)*1024+(m-56320),10)else none:Option (Int×Nat))with|some (v,n)=>(Lib.encodeRune v,(n:Int)+2)|none=>([],0))):=by
             rw[hH.out,hD.out,if_pos (by simp[eats,hB,hC])];exact rfl
            clear hH hD hB hC;go_wp2_with fail;refine(zFE s (k+8) _ hs (by omega)).mono ?_;rintro e w3 ⟨rfl,rfl⟩;cases hF2:four ((lets s).drop (k+8))with
            |none=>
              have hE:Hid (escR ((s[k+1]).toNat::(lets s).drop (k+1+1))=([],0)):=(by rw[hH2.out,hF2];exact rfl);rw[show zzN ((lets s).drop (k+8))= -1 by unfold zzN;rw[hF2]];clear hF2 hH2;go_wp2;go_ret2;exact⟨by rw[hE.out];rfl,hbl⟩
            |some m=>
              obtain⟨m0,m1⟩:=zab hF2;rw[show zzN ((lets s).drop (k+8))=m by unfold zzN;rw[hF2]];by_cases hm:56320≤m∧m≤57343
              ·obtain⟨hm0,hm1⟩:=hm;have hE:Hid (escR ((s[k+1]).toNat::(lets s).drop (k+1+1))=(Lib.encodeRune (65536+(v-55296)*1024+(m-56320)),12)):=by
                rw[hH2.out,hF2];simp only [show lowB m=true by simp[lowB];omega];exact rfl
               clear hF2 hH2;go_wp2_with fail;refine(z6w _ _ (by omega) (by omega) (by omega)).mono ?_;rintro e w4 ⟨rfl,hb4⟩;rw[show 65536+1024*(v-55296)+m-56320=65536+(v-55296)*1024+(m-56320) by omega];go_wp2;go_ret2;exact⟨by rw[hE.out];rfl,hbl.trans (hb4.mono hbl.size)⟩
              ·have hE:Hid (escR ((s[k+1]).toNat::(lets s).drop (k+1+1))=([],0)):=by
                rw[hH2.out,hF2];simp only [show lowB m=false by simp[lowB];omega];exact rfl
               have hmm:m<56320∨57343<m:=(by omega);clear hF2 hH2 hm;rcases hmm with hmm|hmm
               all_goals
                go_wp2;go_ret2;exact⟨by rw[hE.out];rfl,hbl⟩
           ·have hC':(((s[k+7]).toNat:Int) != 117)=true:=(by simp;omega);have hE:Hid (escR ((s[k+1]).toNat::(lets s).drop (k+1+1))=([],0)):=by
             rw[hH.out,hD.out,if_neg (by simp[eats];intro _;omega)];exact rfl
            clear hH hD hB hC;go_wp2;go_ret2;exact⟨by rw[hE.out];rfl,hbl⟩
          ·have hB':(((s[k+6]).toNat:Int) != 92)=true:=(by simp;omega);have hE:Hid (escR ((s[k+1]).toNat::(lets s).drop (k+1+1))=([],0)):=by
            rw[hH.out,hD.out,if_neg (by simp[eats];intro h;omega)];exact rfl
           clear hH hD hB;go_wp2;go_ret2;exact⟨by rw[hE.out];rfl,hbl⟩
         ·have hA':¬(k:Int)+7<(s.size:Int):=(by omega);have hE:Hid (escR ((s[k+1]).toNat::(lets s).drop (k+1+1))=([],0)):=by
           have hlen:((lets s).drop (k+6)).length≤1:=(by simp[lets];omega);rw[hH.out,if_neg ?_]
           ·exact rfl
           ·match hq:(lets s).drop (k+6),hlen with
            | [],_=>simp[eats]
            | [x],_=>simp[eats]
            |_::_::_,h=>simp at h
          clear hH;go_wp2;go_ret2;exact⟨by rw[hE.out];rfl,hbl⟩
        ·have hE:Hid (escR ((s[k+1]).toNat::(lets s).drop (k+1+1))=(Lib.encodeRune v,6)):=by
          rw[HX2.out,hN.out,if_neg (by simp[hlb]),if_neg (by simp[zDm];omega)];exact rfl
         clear HX2 hN hlb;have hv2:v<55296∨57343<v:=(by omega);clear hlo hhi;rcases hv2 with hv2|hv2
         all_goals
          go_wp2_with fail;refine(z6w v _ v0 (by omega) (by omega)).mono ?_;rintro e w3 ⟨rfl,hb3⟩;go_wp2;go_ret2;exact⟨by rw[hE.out];rfl,hbl.trans (hb3.mono hbl.size)⟩
    ·have hq:(((s[k+1]).toNat:Int) != 117)=true:=(by simp;omega);have hE:Hid (escR ((s[k+1]).toNat::(lets s).drop (k+1+1))=([],0)):=by
      rw[HX.out,if_neg (by simp;omega)];exact rfl
     clear HX hu;go_wp2;go_ret2;exact⟨by rw[hE.out];rfl,hbl⟩
 ·rw[zgM (by omega)];have h1':¬(k:Int)+1<(s.size:Int):=by omega
  go_enter func164,ntmps164;go_wp2;go_ret2;exact⟨rfl,zD⟩
def zU1 (l:List Nat):List UInt8:=l.map UInt8.ofNat
def z6V:Nat→List UInt8→List Nat→Option (List UInt8×List Nat)
 |0,_,_=>none
 |_+1,_,[]=>none
 |f+1,out,c::t=>if c=34 then some (out,t)else if c=92 then
    (match zvTw t with|none=>none|some (v,n)=>z6V f (out++Lib.encodeRune v) (t.drop n))
   else if zZe (c::t)=0∨c<32 then none else z6V f (out++zU1 ((c::t).take (zZe (c::t)).toNat)) ((c::t).drop (zZe (c::t)).toNat)
theorem bapp (a b:List UInt8):(⟨a.toArray⟩:ByteArray)++(⟨b.toArray⟩:ByteArray)=⟨(a++b).toArray⟩:=by
 apply ByteArray.ext;simp
theorem zln (l:List UInt8):zU1 (l.map (·.toNat))=l:=by
 unfold zU1
 induction l with
 |nil=>rfl
 |cons a t ih=>simp only [List.map_cons,ih];congr 1;exact UInt8.ofNat_toNat
theorem z5M (s:ByteArray)(j n:Nat):s.extract j (j+n)=⟨(zU1 (((lets s).drop j).take n)).toArray⟩:=by
 rw[Lib.extract_eq,show((lets s).drop j).take n=((s.data.toList.drop j).take n).map (·.toNat) by unfold lets;rw[List.map_take,List.map_drop],zln];congr 3;omega
theorem zVE {l:List Nat}{v:Int}{n:Nat}(h:z2Bk l=some (v,n)):1≤n∧n≤10:=by
 unfold z2Bk at h;split at h
 ·cases h
 ·split at h
  ·cases h
  ·split at h
   ·split at h
    ·split at h
     ·cases h
     ·split at h
      ·simp at h;omega
      ·cases h
    ·cases h
   ·simp at h;omega
theorem zf5 {l:List Nat}{v:Int}{n:Nat}(h:zvTw l=some (v,n)):1≤n∧n≤11:=by
 cases l with
 |nil=>cases h
 |cons c t=>
   unfold zvTw at h
   repeat' split at h
   all_goals first
    | (simp at h;omega)
    | (cases h;done)
    | (rename_i hq;simp at h;have:=zVE hq;omega)
theorem z6m (m:Nat):∀(v:Int) (l:List Nat) (x:Int),zrv m v l=some x→m≤l.length:=by
 induction m with
 |zero=>intro v l x _;omega
 |succ m ih=>
   intro v l x h;cases l with
   |nil=>simp[zrv]at h
   |cons c t=>
     rw[zrv]at h;split at h
     ·have:=ih _ _ _ h;simp;omega
     ·cases h
theorem zJw (n least:Int)(o:Option Int):z5U n least o=0∨(z5U n least o=n∧∃x,o=some x):=by
 cases o with
 |none=>left;rfl
 |some v=>
   by_cases h:v<least∨1114111<v∨(55296≤v∧v≤57343)
   ·left;exact zHy h
   ·right;exact⟨z9X h,v,rfl⟩
theorem z9Z (l:List Nat):0≤zZe l∧zZe l≤4∧(zZe l≠0→(zZe l).toNat≤l.length):=by
 cases l with
 |nil=>exact⟨by decide,by decide,fun h=>absurd rfl h⟩
 |cons b t=>
   rw[zZe];split
   ·exact⟨by decide,by decide,fun _=>by simp⟩
   ·split
    ·rcases zJw 2 128 (zrv 1 ((b:Int)-192) t)with h|⟨h,x,hx⟩
     ·rw[h];exact⟨by decide,by decide,fun h=>absurd rfl h⟩
     ·rw[h];have:=z6m _ _ _ _ hx;exact⟨by decide,by decide,fun _=>by simp;omega⟩
    ·split
     ·rcases zJw 3 2048 (zrv 2 ((b:Int)-224) t)with h|⟨h,x,hx⟩
      ·rw[h];exact⟨by decide,by decide,fun h=>absurd rfl h⟩
      ·rw[h];have:=z6m _ _ _ _ hx;exact⟨by decide,by decide,fun _=>by simp;omega⟩
     ·split
      ·rcases zJw 4 65536 (zrv 3 ((b:Int)-240) t)with h|⟨h,x,hx⟩
       ·rw[h];exact⟨by decide,by decide,fun h=>absurd rfl h⟩
       ·rw[h];have:=z6m _ _ _ _ hx;exact⟨by decide,by decide,fun _=>by simp;omega⟩
      ·exact⟨by decide,by decide,fun h=>absurd rfl h⟩
theorem quoted_any (s:ByteArray)(k:Nat)(w:World)(hs:s.size≤2000000)(hk:k<s.size):
 Calls Tryz.prog 133 #[.string s,.int .i64 k] w fun e w'=>Below w.heap.size w w'∧
  ((∃v j,z6V (s.size+1) [] ((lets s).drop (k+1))=some (v,(lets s).drop j)∧k<j∧j≤s.size∧v.length≤4*s.size∧e=.returned (.tuple #[.string ⟨v.toArray⟩,.int .i64 (j:Int)]))∨
   (z6V (s.size+1) [] ((lets s).drop (k+1))=none∧e=.returned (.tuple #[.string ⟨#[]⟩,.int .i64 (-1)]))):=by
 go_enter Tryz.func133,Tryz.ntmps133;go_wp2;go_loopw [6,7] (fun o i wr=>∃(j f:Nat) (out:List UInt8),o=.string ⟨out.toArray⟩∧i=.int .i64 (j:Int)∧k<j∧j≤s.size+12∧s.size+2≤j+f∧out.length≤4*j∧z6V f out ((lets s).drop j)=z6V (s.size+1) [] ((lets s).drop (k+1))∧Below w.heap.size w wr) (fun _ i _=>s.size+12-(intOf i).toNat)
 case atStart=>exact⟨k+1,s.size+1,[],rfl,by go_num,by omega,by omega,by omega,by simp,rfl,zD⟩
 case round=>
  obtain⟨j,f,out,rfl,rfl,hkj,hjs,hjf,hol,HR,hbl⟩:=hrel;have hR:Hid (z6V f out ((lets s).drop j)=z6V (s.size+1) [] ((lets s).drop (k+1))):=HR;clear HR;by_cases hin:j<s.size
  ·obtain⟨f,rfl⟩:∃f',f=f'+1:=⟨f-1,by omega⟩;have hin':(j:Int)<(s.size:Int):=(by omega);have hcb:(s[j]).toNat<256:=(s[j]).toNat_lt;have hD:Hid ((lets s).drop j=(s[j]).toNat::(lets s).drop (j+1)):=zhG hin;by_cases h34:(s[j]).toNat=34
   ·have hq:(((s[j]).toNat:Int) != 34)=false:=(by simp;omega);have hE:Hid (z6V (s.size+1) [] ((lets s).drop (k+1))=some (out,(lets s).drop (j+1))):=(by rw[←hR.out,hD.out,z6V,if_pos h34];exact rfl);clear hR hD h34;go_wp2;go_ret2;exact⟨hbl,Or.inl ⟨out,j+1,hE.out,by omega,by omega,by omega,rfl⟩⟩
   ·have hq:(((s[j]).toNat:Int) != 34)=true:=(by simp;omega);by_cases h92:(s[j]).toNat=92
    ·have hq2:(((s[j]).toNat:Int)==92)=true:=(by simp;omega);have hS:Hid (z6V (s.size+1) [] ((lets s).drop (k+1))=(match zvTw ((lets s).drop (j+1))with|none=>none|some (v,n)=>z6V f (out++Lib.encodeRune v) (((lets s).drop (j+1)).drop n))):=by
      rw[←hR.out,hD.out,z6V,if_neg h34,if_pos h92];exact rfl
     clear hR hD h34 h92;go_wp2_with fail;refine(zsm s j _ hs hin).mono ?_;rintro e w2 ⟨rfl,hb2⟩;have hbl2:=hbl.trans (hb2.mono hbl.size);cases hx:zvTw ((lets s).drop (j+1))with
     |none=>
       have hE:Hid (z6V (s.size+1) [] ((lets s).drop (k+1))=none):=(by rw[hS.out,hx];exact rfl);rw[show escR ((lets s).drop (j+1))=([],0) by unfold escR;rw[hx]];clear hS hx;go_wp2;go_ret2;exact⟨hbl2,Or.inr ⟨hE.out,rfl⟩⟩
     |some p=>
       obtain⟨v,n⟩:=p;rw[show escR ((lets s).drop (j+1))=(Lib.encodeRune v,(n:Int)+1) by unfold escR;rw[hx]];have hn:=zf5 hx;have hE:Hid (z6V f (out++Lib.encodeRune v) ((lets s).drop (j+1+n))=z6V (s.size+1) [] ((lets s).drop (k+1))):=by
        rw[hS.out,hx];simp only [List.drop_drop];trivial
       have hne:(((n:Int)+1)==0)=false:=(by simp;omega);have hl4:=Lib.runeCells_le v;rw[Lib.runeCells_length]at hl4;clear hS hx;go_wp2;go_roundw
       case rel=>exact⟨j+1+n,f,out++Lib.encodeRune v,by rw[bapp],by go_num,by omega,by omega,by omega,by simp;omega,hE.out,hbl2⟩
       case measure=>simp[intOf];omega
    ·have hq2:(((s[j]).toNat:Int)==92)=false:=(by simp;omega);have hS:Hid (z6V (s.size+1) [] ((lets s).drop (k+1))=if zZe ((lets s).drop j)=0∨(s[j]).toNat<32 then none else z6V f (out++zU1 (((lets s).drop j).take (zZe ((lets s).drop j)).toNat)) (((lets s).drop j).drop (zZe ((lets s).drop j)).toNat)):=by
      rw[←hR.out,hD.out,z6V,if_neg h34,if_neg h92];exact rfl
     clear hR hD h34 h92;go_wp2_with fail;refine(zPC s j _ hs hin).mono ?_;rintro e w2 ⟨rfl,rfl⟩;have hcp:=z9Z ((lets s).drop j);generalize zZe ((lets s).drop j)=n at*;by_cases hbad:n=0∨(s[j]).toNat<32
     ·have hE:Hid (z6V (s.size+1) [] ((lets s).drop (k+1))=none):=(by rw[hS.out,if_pos hbad];exact rfl);clear hS;by_cases h0:n=0
      ·subst h0;clear hbad;go_wp2;go_ret2;exact⟨hbl,Or.inr ⟨hE.out,rfl⟩⟩
      ·have h0':(n==0)=false:=(by simpa using h0);have h32:((s[j]).toNat:Int)<32:=(by omega);clear hbad h0;go_wp2;go_ret2;exact⟨hbl,Or.inr ⟨hE.out,rfl⟩⟩
     ·have hE:Hid (z6V f (out++zU1 (((lets s).drop j).take n.toNat)) (((lets s).drop j).drop n.toNat)=z6V (s.size+1) [] ((lets s).drop (k+1))):=(by rw[hS.out,if_neg hbad];exact rfl);have h0':(n==0)=false:=(by simp;omega);have h32:¬((s[j]).toNat:Int)<32:=(by omega);have hlen:n.toNat≤s.size-j:=by
       have:=hcp.2.2 (by omega);simpa [lets]using this
      have hn4:n≤4:=hcp.2.1;have hn1:1≤n:=(by omega);have hsz:(j:Int)+n≤(s.size:Int):=(by omega);clear hS hbad;go_wp2;have hto:((j:Int)+n).toNat=j+n.toNat:=(by omega);have hlt:(zU1 (((lets s).drop j).take n.toNat)).length≤4:=(by simp[zU1];omega);go_roundw
      case rel=>exact⟨j+n.toNat,f,out++zU1 (((lets s).drop j).take n.toNat),by rw[hto,z5M,bapp],by go_num,by omega,by omega,by omega,by simp only [zI];omega,by rw[←List.drop_drop];exact hE.out,hbl⟩
      case measure=>simp[intOf];omega
  ·have hE:Hid (z6V (s.size+1) [] ((lets s).drop (k+1))=none):=by
    rw[←hR.out,zgM (by omega)];cases f<;>exact rfl
   have hin':¬(j:Int)<(s.size:Int):=(by omega);clear hR;go_wp2;go_ret2;exact⟨hbl,Or.inr ⟨hE.out,rfl⟩⟩
def hasP (c:Nat):List Nat→Bool
 | []=>false
 |x::t=>c==x||hasP c t
theorem has_any (s:ByteArray)(c:Nat)(w:World)(hs:s.size≤9000000)(_hc:c<256):
 Calls prog 104 #[.string s,.int .u8 c] w fun e w'=>e=.returned (.bool (hasP c (lets s)))∧w'=w:=by
 go_enter func104,ntmps104;go_wp2;go_loop [5] (fun i=>∃(j:Nat),j≤s.size∧i=.int .i64 (j:Int)∧hasP c ((lets s).drop j)=hasP c (lets s)) (fun i=>s.size-(intOf i).toNat)
 case atStart=>exact⟨0,by omega,by simp,rfl⟩
 case round=>
  obtain⟨j,hj,rfl,HR⟩:=hrel;have hR:Hid (hasP c ((lets s).drop j)=hasP c (lets s)):=HR;clear HR;by_cases hin:j<s.size
  ·have hD:=zhG hin;have hcb:(s[j]).toNat<256:=(s[j]).toNat_lt;have hin':(j:Int)<(s.size:Int):=(by omega);have hS:Hid (hasP c (lets s)=(c==(s[j]).toNat||hasP c ((lets s).drop (j+1)))):=by
    rw[←hR.out,hD,hasP];exact rfl
   clear hR hD;by_cases hq:(s[j]).toNat=c
   ·have hq':(((s[j]).toNat:Int)==(c:Int))=true:=(by simp;omega);have hE:Hid (hasP c (lets s)=true):=(by rw[hS.out,hq];simp[Hid]);clear hS;go_wp2;go_ret;exact⟨by rw[hE.out];rfl,rfl⟩
   ·have hq':(((s[j]).toNat:Int)==(c:Int))=false:=(by simp;omega);have hE:Hid (hasP c ((lets s).drop (j+1))=hasP c (lets s)):=(by rw[hS.out,show(c==(s[j]).toNat)=false by simp;omega];simp[Hid]);clear hS;go_wp2;go_round
    case rel=>exact⟨j+1,by omega,by go_num,hE.out⟩
    case measure=>simp[intOf];omega
  ·have hE:Hid (hasP c (lets s)=false):=(by rw[←hR.out,zgM (by omega)];exact rfl);have hin':¬(j:Int)<(s.size:Int):=(by omega);clear hR;go_wp2;go_ret;exact⟨by rw[hE.out];rfl,rfl⟩
def zlt:Int→List Nat→Option Int
 |n,[]=>some n
 |n,c::t=>if(c:Int)-48<0∨9<(c:Int)-48 then none else if n<(-9223372036854775808+((c:Int)-48)).tdiv 10 then none else zlt (10*n-((c:Int)-48)) t
def z8T (minus:Bool)(t:List Nat):Int×Bool:=
 if t.length<1∨19<t.length∨(1<t.length∧t.headD 0=48)then(0,false)
 else match zlt 0 t with
  |none=>(0,false)
  |some n=>if minus then(n,true)else(if n= -9223372036854775808 then n else -n,decide (-9223372036854775808<n))
def zyu (l:List Nat):Int×Bool:=if l.headD 0=45 then z8T true l.tail else z8T false l
theorem zQP {s:ByteArray}(h:0<s.size):(lets s).headD 0=(s[0]).toNat:=by
 have:=zhG h;rw[List.drop_zero]at this;rw[this];rfl
theorem zSQ (s:ByteArray):(lets s).length=s.size:=by simp[lets]
theorem zZn {b:Bool}{t:ByteArray}(h:t.size<1∨19<t.size∨(1<t.size∧∃h:0<t.size,(t[0]).toNat=48)):z8T b (lets t)=(0,false):=by
 rw[z8T,if_pos];rw[zSQ];rcases h with h|h|⟨h,h',h''⟩
 ·exact Or.inl h
 ·exact Or.inr (Or.inl h)
 ·exact Or.inr (Or.inr ⟨h,by rw[zQP h',h'']⟩)
theorem zB2 {b:Bool}{t:ByteArray}(h1:1≤t.size)(h2:t.size≤19)(h3:1<t.size→(t[0]).toNat=48→False):z8T b (lets t)=match zlt 0 (lets t)with
 |none=>(0,false)
 |some n=>if b then(n,true)else(if n= -9223372036854775808 then n else -n,decide (-9223372036854775808<n)):=by
 rw[z8T,if_neg];rw[zSQ];rintro(h|h|⟨h,h'⟩)
 ·omega
 ·omega
 ·rw[zQP (by omega)]at h';exact h3 h h'
theorem whole_any (s:ByteArray)(w:World)(hs:s.size≤9000000):
 Calls prog 106 #[.string s] w fun e w'=>e=.returned (.tuple #[.int .i64 (zyu (lets s)).1,.bool (zyu (lets s)).2])∧w'=w:=by
 go_enter func106,ntmps106;by_cases h0:0<s.size
 ·have h0':(s.size:Int) > 0:=by omega
  have hcb:(s[0]).toNat<256:=(s[0]).toNat_lt;by_cases hm:(s[0]).toNat=45
  ·have hm':(((s[0]).toNat:Int)==45)=true:=(by simp;omega);have hW0:Hid (zyu (lets s)=z8T true (lets s).tail):=(by unfold zyu;rw[zQP h0,if_pos hm];exact rfl);have htl:(lets s).tail=lets (s.extract 1 s.size):=(by rw[lets,lets,Lib.extract_data,←List.map_tail,←List.drop_one,List.take_of_length_le (by simp)]);have htz:(s.extract 1 s.size).size=s.size-1:=(by simp);rw[htl]at hW0;clear htl;go_wp2
   all_goals (generalize s.extract 1 s.size=t at *)
   all_goals first
    | go_ret2
      refine⟨?_,rfl⟩;have hE:zyu (lets s)=(0,false):=by
       rw[hW0.out];apply zZn
       first
        | (left;omega)
        | (right;left;omega)
        | (right;right;refine⟨by omega,by omega,?_⟩;rename_i hx;simp at hx;omega)
      rw[hE];rfl
    | skip
   all_goals
    have hW:Hid (zyu (lets s)=match zlt 0 (lets t)with|none=>(0,false)|some n=>(n,true)):=by
     rw[hW0.out,zB2]
     ·exact rfl
     ·omega
     ·omega
     ·intro hx1 hx2
      first|omega|(rename_i hx;simp at hx;omega)
   all_goals clear hW0
   all_goals
    go_loop [5,6] (fun n i=>∃(j:Nat) (acc:Int),j≤t.size∧i=.int .i64 (j:Int)∧n=.int .i64 acc∧ -9223372036854775808≤acc∧acc≤0∧zlt acc ((lets t).drop j)=zlt 0 (lets t)) (fun _ i=>t.size-(intOf i).toNat)
    case atStart=>exact⟨0,0,by omega,rfl,rfl,by omega,by omega,rfl⟩
    case round=>
     obtain⟨j,acc,hj,rfl,rfl,ha0,ha1,HR⟩:=hrel;have hR:Hid (zlt acc ((lets t).drop j)=zlt 0 (lets t)):=HR;clear HR;by_cases hin:j<t.size
     ·have hD:=zhG hin;have hcb2:(t[j]).toNat<256:=(t[j]).toNat_lt;have hin':(j:Int)<(t.size:Int):=(by omega);have hS:Hid (zlt 0 (lets t)=if((t[j]).toNat:Int)-48<0∨9<((t[j]).toNat:Int)-48 then none else if acc<(-9223372036854775808+(((t[j]).toNat:Int)-48)).tdiv 10 then none else zlt (10*acc-(((t[j]).toNat:Int)-48)) ((lets t).drop (j+1))):=by
       rw[←hR.out,hD,zlt];exact rfl
      clear hR hD;by_cases hd1:((t[j]).toNat:Int)-48<0
      ·have hE:Hid (zyu (lets s)=(0,false)):=(by rw[hW.out,hS.out,if_pos (Or.inl hd1)];exact rfl);clear hS hW;go_wp2;go_ret2;exact⟨by rw[hE.out];rfl,rfl⟩
      ·by_cases hd2:9<((t[j]).toNat:Int)-48
       ·have hE:Hid (zyu (lets s)=(0,false)):=(by rw[hW.out,hS.out,if_pos (Or.inr hd2)];exact rfl);clear hS hW;go_wp2;go_ret2;exact⟨by rw[hE.out];rfl,rfl⟩
       ·have hq:(-9223372036854775808+(((t[j]).toNat:Int)-48)).tdiv 10= -((9223372036854775808-(((t[j]).toNat:Int)-48))/10):=by
         rw[show -9223372036854775808+(((t[j]).toNat:Int)-48)= -(9223372036854775808-(((t[j]).toNat:Int)-48)) by omega,Int.neg_tdiv,Int.tdiv_eq_ediv_of_nonneg (by omega)]
        by_cases hd3:acc<(-9223372036854775808+(((t[j]).toNat:Int)-48)).tdiv 10
        ·have hE:Hid (zyu (lets s)=(0,false)):=(by rw[hW.out,hS.out,if_neg (by omega),if_pos hd3];exact rfl);clear hS hW;go_wp2;go_ret2;exact⟨by rw[hE.out];rfl,rfl⟩
        ·have hE:Hid (zlt (10*acc-(((t[j]).toNat:Int)-48)) ((lets t).drop (j+1))=zlt 0 (lets t)):=(by rw[hS.out,if_neg (by omega),if_neg hd3];exact rfl);have hb1: -9223372036854775808≤10*acc-(((t[j]).toNat:Int)-48):=(by omega);have hb2: -9223372036854775808≤10*acc:=(by omega);clear hS;go_wp2;go_round
         case rel=>exact⟨j+1,_,by omega,by go_num,by go_num,by omega,by omega,hE.out⟩
         case measure=>simp[intOf];omega
     ·have hin':¬(j:Int)<(t.size:Int):=(by omega);have hX:zlt 0 (lets t)=some acc:=(by rw[←hR.out,zgM (by omega),zlt]);clear hR;have hE:Hid (zyu (lets s)=(acc,true)):=(by rw[hW.out,hX];exact rfl);clear hW hX;go_wp2;go_ret2;exact⟨by rw[hE.out];rfl,rfl⟩
  ·have hm':(((s[0]).toNat:Int)==45)=false:=(by simp;omega);have hW0:Hid (zyu (lets s)=z8T false (lets s)):=(by unfold zyu;rw[zQP h0,if_neg hm];exact rfl);go_wp2
   all_goals first
    | go_ret2
      refine⟨?_,rfl⟩;have hE:zyu (lets s)=(0,false):=by
       rw[hW0.out];apply zZn
       first
        | (left;omega)
        | (right;left;omega)
        | (right;right;refine⟨by omega,by omega,?_⟩;rename_i hx;simp at hx;omega)
      rw[hE];rfl
    | skip
   all_goals
    have hW:Hid (zyu (lets s)=match zlt 0 (lets s)with|none=>(0,false)|some n=>(if n= -9223372036854775808 then n else -n,decide (-9223372036854775808<n))):=by
     rw[hW0.out,zB2]
     ·exact rfl
     ·omega
     ·omega
     ·intro hx1 hx2
      first|omega|(rename_i hx;simp at hx;omega)|(rename_i hx _;simp at hx;omega)|(rename_i hx _ _;simp at hx;omega)
   all_goals clear hW0
   all_goals
    go_loop [5,6] (fun n i=>∃(j:Nat) (acc:Int),j≤s.size∧i=.int .i64 (j:Int)∧n=.int .i64 acc∧ -9223372036854775808≤acc∧acc≤0∧zlt acc ((lets s).drop j)=zlt 0 (lets s)) (fun _ i=>s.size-(intOf i).toNat)
    case atStart=>exact⟨0,0,by omega,rfl,rfl,by omega,by omega,rfl⟩
    case round=>
     obtain⟨j,acc,hj,rfl,rfl,ha0,ha1,HR⟩:=hrel;have hR:Hid (zlt acc ((lets s).drop j)=zlt 0 (lets s)):=HR;clear HR;by_cases hin:j<s.size
     ·have hD:=zhG hin;have hcb2:(s[j]).toNat<256:=(s[j]).toNat_lt;have hin':(j:Int)<(s.size:Int):=(by omega);have hS:Hid (zlt 0 (lets s)=if((s[j]).toNat:Int)-48<0∨9<((s[j]).toNat:Int)-48 then none else if acc<(-9223372036854775808+(((s[j]).toNat:Int)-48)).tdiv 10 then none else zlt (10*acc-(((s[j]).toNat:Int)-48)) ((lets s).drop (j+1))):=by
       rw[←hR.out,hD,zlt];exact rfl
      clear hR hD;by_cases hd1:((s[j]).toNat:Int)-48<0
      ·have hE:Hid (zyu (lets s)=(0,false)):=(by rw[hW.out,hS.out,if_pos (Or.inl hd1)];exact rfl);clear hS hW;go_wp2;go_ret2;exact⟨by rw[hE.out];rfl,rfl⟩
      ·by_cases hd2:9<((s[j]).toNat:Int)-48
       ·have hE:Hid (zyu (lets s)=(0,false)):=(by rw[hW.out,hS.out,if_pos (Or.inr hd2)];exact rfl);clear hS hW;go_wp2;go_ret2;exact⟨by rw[hE.out];rfl,rfl⟩
       ·have hq:(-9223372036854775808+(((s[j]).toNat:Int)-48)).tdiv 10= -((9223372036854775808-(((s[j]).toNat:Int)-48))/10):=by
         rw[show -9223372036854775808+(((s[j]).toNat:Int)-48)= -(9223372036854775808-(((s[j]).toNat:Int)-48)) by omega,Int.neg_tdiv,Int.tdiv_eq_ediv_of_nonneg (by omega)]
        by_cases hd3:acc<(-9223372036854775808+(((s[j]).toNat:Int)-48)).tdiv 10
        ·have hE:Hid (zyu (lets s)=(0,false)):=(by rw[hW.out,hS.out,if_neg (by omega),if_pos hd3];exact rfl);clear hS hW;go_wp2;go_ret2;exact⟨by rw[hE.out];rfl,rfl⟩
        ·have hE:Hid (zlt (10*acc-(((s[j]).toNat:Int)-48)) ((lets s).drop (j+1))=zlt 0 (lets s)):=(by rw[hS.out,if_neg (by omega),if_neg hd3];exact rfl);have hb1: -9223372036854775808≤10*acc-(((s[j]).toNat:Int)-48):=(by omega);have hb2: -9223372036854775808≤10*acc:=(by omega);clear hS;go_wp2;go_round
         case rel=>exact⟨j+1,_,by omega,by go_num,by go_num,by omega,by omega,hE.out⟩
         case measure=>simp[intOf];omega
     ·have hin':¬(j:Int)<(s.size:Int):=(by omega);have hX:zlt 0 (lets s)=some acc:=(by rw[←hR.out,zgM (by omega),zlt]);clear hR;by_cases hmin:acc= -9223372036854775808
      ·subst hmin;have hE:Hid (zyu (lets s)=(-9223372036854775808,false)):=(by rw[hW.out,hX];exact rfl);clear hW hX;go_wp2;go_ret2;rw[show wrap64 9223372036854775808= -9223372036854775808 by unfold wrap64;omega];exact⟨by rw[hE.out];rfl,rfl⟩
      ·have hE:Hid (zyu (lets s)=(-acc,true)):=(by rw[hW.out,hX];simp[hmin,Hid];omega);have hgt: -9223372036854775808<acc:=(by omega);clear hW hX hmin;go_wp2;go_ret2;exact⟨by rw[hE.out];rfl,rfl⟩
 ·have h0':¬(s.size:Int) > 0:=by omega
  have hE:Hid (zyu (lets s)=(0,false)):=by
   rw[show lets s=[]from zgM (k:=0) (by omega)];exact rfl
  go_wp2;go_ret2;exact⟨by rw[hE.out];rfl,rfl⟩
end Go.Proofs.YtbbkihekjdffpaaGreatDoor
