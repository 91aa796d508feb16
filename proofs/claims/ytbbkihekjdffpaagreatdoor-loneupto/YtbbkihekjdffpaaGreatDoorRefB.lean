/- Several texts in one. -/
import Derived.Test.YtbbkihekjdffpaaGreatDoorScanV
import Derived.BigRegion
import Derived.Laws.BytesArg
import Derived.Lib.RuneBytes
set_option maxHeartbeats 4000000
set_option maxRecDepth 100000
namespace Go.Proofs.YtbbkihekjdffpaaGreatDoor
open Go.RowKit

theorem zhG {s:ByteArray} {k:Nat} (h:k < s.size):(lets s).drop k=(s[k]).toNat::(lets s).drop (k+1):=zvH s k h
theorem zgM {s:ByteArray} {k:Nat} (h:s.size≤k):(lets s).drop k=[]:=List.drop_eq_nil_of_le (by simpa [lets] using h)

def zzN (l:List Nat):Int:=match four l with | some v=>v | none=> -1

theorem zWk {c:Int} (h:48≤c) (h':c≤57):hexV c=c - 48∧hexB c=true:=by
 constructor
 · unfold hexV;rw [if_pos ⟨h,h'⟩]
 · unfold hexB;simp;omega
theorem zz5 {c:Int} (h:97≤c) (h':c≤102):hexV c=c - 97+10∧hexB c=true:=by
 constructor
 · unfold hexV;rw [if_neg (by omega),if_pos ⟨h,h'⟩]
 · unfold hexB;simp;omega
theorem zF4 {c:Int} (h:65≤c) (h':c≤70):hexV c=c - 65+10∧hexB c=true:=by
 constructor
 · unfold hexV;rw [if_neg (by omega),if_neg (by omega),if_pos ⟨h,h'⟩]
 · unfold hexB;simp;omega
theorem zXX {c:Int} (h1:¬ (48≤c∧c≤57)) (h2:¬ (97≤c∧c≤102)) (h3:¬ (65≤c∧c≤70)):hexB c=false:=by
 unfold hexB;simp;omega

theorem z3m {L:List Nat} {F:Option Int} {acc c x:Int} {m:Nat} (hS:F=if hexB c then zyQ m (acc*16+hexV c) L else none) (hb:hexB c=true) (hx:x=acc*16+hexV c):zyQ m x L=F:=by rw [hS,if_pos hb,hx]
theorem z0B {acc c x:Int} {j:Nat} (h0:0≤acc) (h:acc < 16 ^ j) (hx:x=acc*16+hexV c):0≤x∧x < 16 ^ (j+1):=by
 have:=zLt c
 subst hx
 exact ⟨by omega,zcG h this.1 this.2⟩
theorem zZb {F:Option Int} {acc c:Int} {m:Nat} {L:List Nat} (hS:F=if hexB c then zyQ m (acc*16+hexV c) L else none) (hb:hexB c=false):F=none:=by rw [hS,hb];rfl

theorem zFE (s:ByteArray) (k:Nat) (w:World) (hs:s.size≤2000000) (hk:k≤4000000):
 Calls Tryz.prog 181 #[.string s,.int .i64 k] w fun e w'=>e=.returned (.int .i64 (zzN ((lets s).drop k)))∧w'=w:=by
 go_enter Tryz.func181,Tryz.ntmps181
 go_wp2
 go_loop [5,6] (fun n i=>∃ (j:Nat) (acc:Int),j≤4∧i=.int .i64 ((k+j:Nat):Int)∧n=.int .i64 acc∧0≤acc∧acc < 16 ^ j∧zyQ (4 - j) acc ((lets s).drop (k+j))=four ((lets s).drop k)) (fun _ i=>k+4 - (intOf i).toNat)
 case atStart=>exact ⟨0,0,by omega,by simp,rfl,by omega,by decide,rfl⟩
 case round=>
  obtain ⟨j,acc,hj,rfl,rfl,ha0,ha1,HR⟩:=hrel
  have hR:Hid (zyQ (4 - j) acc ((lets s).drop (k+j))=four ((lets s).drop k)):=HR
  clear HR
  by_cases hlt:j < 4
  · have hab:=zMp hlt ha1
    have ea:((k+j:Nat):Int)=(k:Int)+(j:Int):=by omega
    by_cases hin:k+j < s.size
    · have hD:=zhG hin
      have hcb:(s[k+j]).toNat < 256:=(s[k+j]).toNat_lt
      have hS:Hid (four ((lets s).drop k)=if hexB ((s[k+j]).toNat:Int) then zyQ (4 - (j+1)) (acc*16+hexV ((s[k+j]).toNat:Int)) ((lets s).drop (k+j+1)) else none):=by
       rw [←hR.out,hD,show 4 - j=(4 - (j+1))+1 by omega,zyQ];exact rfl
      clear hR hD
      have hi1:(k:Int)+(j:Int) < (s.size:Int):=by omega
      have hi2:(j:Int) < 4:=by omega
      go_wp2
      · have hh:=zWk (c:=((s[k+j]).toNat:Int)) (by omega) (by omega)
        have hx:16*acc+((s[k+j]).toNat:Int) - 48=acc*16+hexV ((s[k+j]).toNat:Int):=by rw [hh.1];omega
        have hbd:=z0B ha0 ha1 hx
        go_round
        case rel=>exact ⟨j+1,_,by omega,by go_num,rfl,hbd.1,hbd.2,z3m hS.out hh.2 hx⟩
        case measure=>simp [intOf];omega
      · have hh:=zz5 (c:=((s[k+j]).toNat:Int)) (by omega) (by omega)
        have hx:16*acc+((s[k+j]).toNat:Int) - 97+10=acc*16+hexV ((s[k+j]).toNat:Int):=by rw [hh.1];omega
        have hbd:=z0B ha0 ha1 hx
        go_round
        case rel=>exact ⟨j+1,_,by omega,by go_num,rfl,hbd.1,hbd.2,z3m hS.out hh.2 hx⟩
        case measure=>simp [intOf];omega
      · go_ret
        exact ⟨by unfold zzN;rw [zZb hS.out (zXX (by omega) (by omega) (by omega))];rfl,rfl⟩
      · have hh:=zF4 (c:=((s[k+j]).toNat:Int)) (by omega) (by omega)
        have hx:16*acc+((s[k+j]).toNat:Int) - 65+10=acc*16+hexV ((s[k+j]).toNat:Int):=by rw [hh.1];omega
        have hbd:=z0B ha0 ha1 hx
        go_round
        case rel=>exact ⟨j+1,_,by omega,by go_num,rfl,hbd.1,hbd.2,z3m hS.out hh.2 hx⟩
        case measure=>simp [intOf];omega
      · go_ret
        exact ⟨by unfold zzN;rw [zZb hS.out (zXX (by omega) (by omega) (by omega))];rfl,rfl⟩
      · go_ret
        exact ⟨by unfold zzN;rw [zZb hS.out (zXX (by omega) (by omega) (by omega))];rfl,rfl⟩
      · go_ret
        exact ⟨by unfold zzN;rw [zZb hS.out (zXX (by omega) (by omega) (by omega))];rfl,rfl⟩
    · have hE:Hid (four ((lets s).drop k)=none):=by
       rw [←hR.out,zgM (by omega),show 4 - j=(3 - j)+1 by omega];exact rfl
      clear hR
      go_wp2
      go_ret
      exact ⟨by unfold zzN;rw [hE.out];rfl,rfl⟩
  · obtain rfl:j=4:=by omega
    have hE:Hid (four ((lets s).drop k)=some acc):=by rw [←hR.out];exact rfl
    clear hR
    go_wp2
    go_ret
    exact ⟨by unfold zzN;rw [hE.out];rfl,rfl⟩

theorem zlS (w:World) (zs:List Int):∀ i,i < zs.length→(w.alloc (.cells (zs.map (Value.int .u8)).toArray 5)).cell? ⟨w.heap.size,0+i,none⟩=some (.int .u8 (zs.getD i 0)):=by
 intro i hi
 have hb:(w.alloc (.cells (zs.map (Value.int .u8)).toArray 5)).heap[w.heap.size]?=some (.cells (zs.map (Value.int .u8)).toArray 5):=by
  show (w.heap.push _)[w.heap.size]?=_;simp
 rw [zBk hb,Nat.zero_add]
 simp [List.getElem?_eq_getElem hi,List.getD]

theorem z6w (n:Int) (w:World) (h0:0≤n) (h1:n≤1114111) (hs:n < 55296∨57343 < n):
 Calls Tryz.prog 182 #[.int .i64 n] w fun e w'=>e=.returned (.string ⟨(Lib.encodeRune n).toArray⟩)∧Below w.heap.size w w':=by
 by_cases a1:n < 128
 · clear hs
   have hcv:=run_convert_bytes_arg (P:=Tryz.prog) (w.alloc (.cells #[.int .u8 (n)] 5)) 130 5 Tryz.underlying130 Tryz.underlying5 w.heap.size 0 1 1 [n] rfl (zlS w [n]) 9 Tryz.underlying9
   rw [show strOfNums [n]=⟨(Lib.encodeRune n).toArray⟩ by unfold Lib.encodeRune;rw [Lib.encodeRuneZ_one h0 (by omega)];rfl] at hcv
   go_enter Tryz.func182,Tryz.ntmps182
   go_wp2
   go_ret
   exact ⟨rfl,(Below.refl _ _).alloc (Nat.le_refl _) _⟩
 by_cases a2:n < 2048
 · clear hs
   have hcv:=run_convert_bytes_arg (P:=Tryz.prog) (w.alloc (.cells #[.int .u8 (192+n / 64),.int .u8 (128+n % 64)] 5)) 130 5 Tryz.underlying130 Tryz.underlying5 w.heap.size 0 2 2 [192+n / 64,128+n % 64] rfl (zlS w [192+n / 64,128+n % 64]) 9 Tryz.underlying9
   rw [show strOfNums [192+n / 64,128+n % 64]=⟨(Lib.encodeRune n).toArray⟩ by unfold Lib.encodeRune;rw [Lib.encodeRuneZ_two (by omega) (by omega)];rfl] at hcv
   go_enter Tryz.func182,Tryz.ntmps182
   go_wp2
   go_ret
   exact ⟨rfl,(Below.refl _ _).alloc (Nat.le_refl _) _⟩
 by_cases a3:n < 65536
 · have hcv:=run_convert_bytes_arg (P:=Tryz.prog) (w.alloc (.cells #[.int .u8 (224+n / 4096),.int .u8 (128+n / 64 % 64),.int .u8 (128+n % 64)] 5)) 130 5 Tryz.underlying130 Tryz.underlying5 w.heap.size 0 3 3 [224+n / 4096,128+n / 64 % 64,128+n % 64] rfl (zlS w [224+n / 4096,128+n / 64 % 64,128+n % 64]) 9 Tryz.underlying9
   rw [show strOfNums [224+n / 4096,128+n / 64 % 64,128+n % 64]=⟨(Lib.encodeRune n).toArray⟩ by unfold Lib.encodeRune;rw [Lib.encodeRuneZ_three (by omega)];rfl] at hcv
   clear hs
   go_enter Tryz.func182,Tryz.ntmps182
   go_wp2
   go_ret
   exact ⟨rfl,(Below.refl _ _).alloc (Nat.le_refl _) _⟩
 · clear hs
   have hcv:=run_convert_bytes_arg (P:=Tryz.prog) (w.alloc (.cells #[.int .u8 (240+n / 262144),.int .u8 (128+n / 4096 % 64),.int .u8 (128+n / 64 % 64),.int .u8 (128+n % 64)] 5)) 130 5 Tryz.underlying130 Tryz.underlying5 w.heap.size 0 4 4 [240+n / 262144,128+n / 4096 % 64,128+n / 64 % 64,128+n % 64] rfl (zlS w [240+n / 262144,128+n / 4096 % 64,128+n / 64 % 64,128+n % 64]) 9 Tryz.underlying9
   rw [show strOfNums [240+n / 262144,128+n / 4096 % 64,128+n / 64 % 64,128+n % 64]=⟨(Lib.encodeRune n).toArray⟩ by unfold Lib.encodeRune;rw [Lib.encodeRuneZ_four (by omega) h1];rfl] at hcv
   go_enter Tryz.func182,Tryz.ntmps182
   go_wp2
   go_ret
   exact ⟨rfl,(Below.refl _ _).alloc (Nat.le_refl _) _⟩

def zrv:Nat→Int→List Nat→Option Int
 | 0,v,_=>some v
 | _+1,_,[]=>none
 | m+1,v,c::t=>if 128≤c∧c≤191 then zrv m (64*v+(c:Int) - 128) t else none
def z5U (n least:Int) (o:Option Int):Int:=match o with
 | none=>0
 | some v=>if v < least∨1114111 < v∨(55296≤v∧v≤57343) then 0 else n
def zZe:List Nat→Int
 | []=>0
 | b::t=>if b < 128 then 1 else if 194≤b∧b < 224 then z5U 2 128 (zrv 1 ((b:Int) - 192) t)
   else if 224≤b∧b < 240 then z5U 3 2048 (zrv 2 ((b:Int) - 224) t)
   else if 240≤b∧b < 245 then z5U 4 65536 (zrv 3 ((b:Int) - 240) t) else 0

theorem zlD {v c:Int} {j:Nat} (h0:0≤v) (h:v < 32*64 ^ j) (hc:128≤c) (hc':c≤191):0≤64*v+c - 128∧64*v+c - 128 < 32*64 ^ (j+1):=by
 have:(64:Int) ^ (j+1)=64 ^ j*64:=by rw [Int.pow_succ]
 omega
theorem zsI {v:Int} {j:Nat} (hj:j≤3) (h:v < 32*64 ^ j):v < 8388608:=by
 have:j=0∨j=1∨j=2∨j=3:=by omega
 rcases this with rfl | rfl | rfl | rfl <;> simp at h <;> omega

theorem zHy {n least v:Int} (h:v < least∨1114111 < v∨(55296≤v∧v≤57343)):z5U n least (some v)=0:=by unfold z5U;simp only;rw [if_pos h]
theorem z9X {n least v:Int} (h:¬ (v < least∨1114111 < v∨(55296≤v∧v≤57343))):z5U n least (some v)=n:=by unfold z5U;simp only;rw [if_neg h]

theorem z3K (s:ByteArray) (k:Nat) (w:World) (hs:s.size≤2000000) (hk:k < s.size) (m:Nat) (least base:Int) (hm:(m=1∧least=128∧base=192∧194≤(s[k]).toNat∧(s[k]).toNat < 224)∨(m=2∧least=2048∧base=224∧224≤(s[k]).toNat∧(s[k]).toNat < 240)∨(m=3∧least=65536∧base=240∧240≤(s[k]).toNat∧(s[k]).toNat < 245)):
 Calls Tryz.prog 165 #[.string s,.int .i64 k] w fun e w'=>e=.returned (.int .i64 (z5U ((m:Int)+1) least (zrv m (((s[k]).toNat:Int) - base) ((lets s).drop (k+1)))))∧w'=w:=by
 have hki:(k:Int) < (s.size:Int):=by omega
 rcases hm with ⟨rfl,rfl,rfl,hb0,hb1⟩ | ⟨rfl,rfl,rfl,hb0,hb1⟩ | ⟨rfl,rfl,rfl,hb0,hb1⟩
 · have hb0':(194:Int)≤((s[k]).toNat:Int):=by omega
   have hb1':((s[k]).toNat:Int) < 224:=by omega
   have hd:decide (((s[k]).toNat:Int) < 128)=false:=by simp;omega
   go_enter Tryz.func165,Tryz.ntmps165
   go_wp2
   go_loop [8,9] (fun vv i=>∃ (j:Nat) (v:Int),j≤1∧i=.int .i64 ((k+1+j:Nat):Int)∧vv=.int .i64 v∧0≤v∧v < 32*64 ^ j∧zrv (1 - j) v ((lets s).drop (k+1+j))=zrv 1 (((s[k]).toNat:Int) - 192) ((lets s).drop (k+1))) (fun _ i=>k+1+1 - (intOf i).toNat)
   case atStart=>exact ⟨0,_,by omega,by go_num,rfl,by omega,by simp;omega,rfl⟩
   case round=>
    obtain ⟨j,v,hj,rfl,rfl,hv0,hv1,HR⟩:=hrel
    have hR:Hid (zrv (1 - j) v ((lets s).drop (k+1+j))=zrv 1 (((s[k]).toNat:Int) - 192) ((lets s).drop (k+1))):=HR
    clear HR
    have hvt:=zsI (by omega) hv1
    have ea:((k+1+j:Nat):Int)=(k:Int)+1+(j:Int):=by omega
    by_cases hlt:j < 1
    · have hi2:(j:Int) < 1:=by omega
      by_cases hin:k+1+j < s.size
      · have hi1:(k:Int)+1+(j:Int) < (s.size:Int):=by omega
        have hS:Hid (zrv 1 (((s[k]).toNat:Int) - 192) ((lets s).drop (k+1))=if 128≤(s[k+1+j]).toNat∧(s[k+1+j]).toNat≤191 then zrv (1 - (j+1)) (64*v+((s[k+1+j]).toNat:Int) - 128) ((lets s).drop (k+1+j+1)) else none):=by
         rw [←hR.out,zhG hin,show 1 - j=(1 - (j+1))+1 by omega,zrv];exact rfl
        clear hR
        have hcb:(s[k+1+j]).toNat < 256:=(s[k+1+j]).toNat_lt
        by_cases hc:128≤(s[k+1+j]).toNat∧(s[k+1+j]).toNat≤191
        · obtain ⟨hc0,hc1⟩:=hc
          have hc0':(128:Int)≤((s[k+1+j]).toNat:Int):=by omega
          have hc1':((s[k+1+j]).toNat:Int)≤191:=by omega
          have hbd:=zlD hv0 hv1 hc0' hc1'
          have hT:Hid (zrv (1 - (j+1)) (64*v+((s[k+1+j]).toNat:Int) - 128) ((lets s).drop (k+1+j+1))=zrv 1 (((s[k]).toNat:Int) - 192) ((lets s).drop (k+1))):=by rw [hS.out,if_pos ⟨hc0,hc1⟩];exact rfl
          have HB:Hid (0≤64*v+((s[k+1+j]).toNat:Int) - 128∧64*v+((s[k+1+j]).toNat:Int) - 128 < 32*64 ^ (j+1)):=hbd
          clear hS hbd
          go_wp2
          go_round
          case rel=>exact ⟨j+1,_,by omega,by go_num,rfl,HB.out.1,HB.out.2,hT.out⟩
          case measure=>simp [intOf];omega
        · have hE:Hid (zrv 1 (((s[k]).toNat:Int) - 192) ((lets s).drop (k+1))=none):=by rw [hS.out,if_neg hc];exact rfl
          have hcc:((s[k+1+j]).toNat:Int) < 128∨(191:Int) < ((s[k+1+j]).toNat:Int):=by omega
          clear hS hc
          rcases hcc with hcc | hcc
          all_goals
           go_wp2
           go_ret
           exact ⟨by rw [hE.out];rfl,rfl⟩
      · have hE:Hid (zrv 1 (((s[k]).toNat:Int) - 192) ((lets s).drop (k+1))=none):=by
         rw [←hR.out,zgM (by omega),show 1 - j=(1 - 1 - j)+1 by omega];exact rfl
        clear hR
        have hi1:¬ (k:Int)+1+(j:Int) < (s.size:Int):=by omega
        go_wp2
        go_ret
        exact ⟨by rw [hE.out];rfl,rfl⟩
    · obtain rfl:j=1:=by omega
      have hE:Hid (zrv 1 (((s[k]).toNat:Int) - 192) ((lets s).drop (k+1))=some v):=by rw [←hR.out];exact rfl
      clear hR
      by_cases hq:v < 128∨1114111 < v∨(55296≤v∧v≤57343)
      · go_wp2
        all_goals go_ret
        all_goals refine ⟨?_,rfl⟩
        all_goals rw [hE.out,zHy hq]
        all_goals first
         | rfl
         | (exfalso;omega)
      · go_wp2
        all_goals go_ret
        all_goals refine ⟨?_,rfl⟩
        all_goals rw [hE.out,z9X hq]
        all_goals first
         | rfl
         | (exfalso;omega)
 · have hb0':(224:Int)≤((s[k]).toNat:Int):=by omega
   have hb1':((s[k]).toNat:Int) < 240:=by omega
   have hd:decide (((s[k]).toNat:Int) < 128)=false:=by simp;omega
   go_enter Tryz.func165,Tryz.ntmps165
   go_wp2
   go_loop [8,9] (fun vv i=>∃ (j:Nat) (v:Int),j≤2∧i=.int .i64 ((k+1+j:Nat):Int)∧vv=.int .i64 v∧0≤v∧v < 32*64 ^ j∧zrv (2 - j) v ((lets s).drop (k+1+j))=zrv 2 (((s[k]).toNat:Int) - 224) ((lets s).drop (k+1))) (fun _ i=>k+1+2 - (intOf i).toNat)
   case atStart=>exact ⟨0,_,by omega,by go_num,rfl,by omega,by simp;omega,rfl⟩
   case round=>
    obtain ⟨j,v,hj,rfl,rfl,hv0,hv1,HR⟩:=hrel
    have hR:Hid (zrv (2 - j) v ((lets s).drop (k+1+j))=zrv 2 (((s[k]).toNat:Int) - 224) ((lets s).drop (k+1))):=HR
    clear HR
    have hvt:=zsI (by omega) hv1
    have ea:((k+1+j:Nat):Int)=(k:Int)+1+(j:Int):=by omega
    by_cases hlt:j < 2
    · have hi2:(j:Int) < 2:=by omega
      by_cases hin:k+1+j < s.size
      · have hi1:(k:Int)+1+(j:Int) < (s.size:Int):=by omega
        have hS:Hid (zrv 2 (((s[k]).toNat:Int) - 224) ((lets s).drop (k+1))=if 128≤(s[k+1+j]).toNat∧(s[k+1+j]).toNat≤191 then zrv (2 - (j+1)) (64*v+((s[k+1+j]).toNat:Int) - 128) ((lets s).drop (k+1+j+1)) else none):=by
         rw [←hR.out,zhG hin,show 2 - j=(2 - (j+1))+1 by omega,zrv];exact rfl
        clear hR
        have hcb:(s[k+1+j]).toNat < 256:=(s[k+1+j]).toNat_lt
        by_cases hc:128≤(s[k+1+j]).toNat∧(s[k+1+j]).toNat≤191
        · obtain ⟨hc0,hc1⟩:=hc
          have hc0':(128:Int)≤((s[k+1+j]).toNat:Int):=by omega
          have hc1':((s[k+1+j]).toNat:Int)≤191:=by omega
          have hbd:=zlD hv0 hv1 hc0' hc1'
          have hT:Hid (zrv (2 - (j+1)) (64*v+((s[k+1+j]).toNat:Int) - 128) ((lets s).drop (k+1+j+1))=zrv 2 (((s[k]).toNat:Int) - 224) ((lets s).drop (k+1))):=by rw [hS.out,if_pos ⟨hc0,hc1⟩];exact rfl
          have HB:Hid (0≤64*v+((s[k+1+j]).toNat:Int) - 128∧64*v+((s[k+1+j]).toNat:Int) - 128 < 32*64 ^ (j+1)):=hbd
          clear hS hbd
          go_wp2
          go_round
          case rel=>exact ⟨j+1,_,by omega,by go_num,rfl,HB.out.1,HB.out.2,hT.out⟩
          case measure=>simp [intOf];omega
        · have hE:Hid (zrv 2 (((s[k]).toNat:Int) - 224) ((lets s).drop (k+1))=none):=by rw [hS.out,if_neg hc];exact rfl
          have hcc:((s[k+1+j]).toNat:Int) < 128∨(191:Int) < ((s[k+1+j]).toNat:Int):=by omega
          clear hS hc
          rcases hcc with hcc | hcc
          all_goals
           go_wp2
           go_ret
           exact ⟨by rw [hE.out];rfl,rfl⟩
      · have hE:Hid (zrv 2 (((s[k]).toNat:Int) - 224) ((lets s).drop (k+1))=none):=by
         rw [←hR.out,zgM (by omega),show 2 - j=(2 - 1 - j)+1 by omega];exact rfl
        clear hR
        have hi1:¬ (k:Int)+1+(j:Int) < (s.size:Int):=by omega
        go_wp2
        go_ret
        exact ⟨by rw [hE.out];rfl,rfl⟩
    · obtain rfl:j=2:=by omega
      have hE:Hid (zrv 2 (((s[k]).toNat:Int) - 224) ((lets s).drop (k+1))=some v):=by rw [←hR.out];exact rfl
      clear hR
      by_cases hq:v < 2048∨1114111 < v∨(55296≤v∧v≤57343)
      · go_wp2
        all_goals go_ret
        all_goals refine ⟨?_,rfl⟩
        all_goals rw [hE.out,zHy hq]
        all_goals first
         | rfl
         | (exfalso;omega)
      · go_wp2
        all_goals go_ret
        all_goals refine ⟨?_,rfl⟩
        all_goals rw [hE.out,z9X hq]
        all_goals first
         | rfl
         | (exfalso;omega)
 · have hb0':(240:Int)≤((s[k]).toNat:Int):=by omega
   have hb1':((s[k]).toNat:Int) < 245:=by omega
   have hd:decide (((s[k]).toNat:Int) < 128)=false:=by simp;omega
   go_enter Tryz.func165,Tryz.ntmps165
   go_wp2
   go_loop [8,9] (fun vv i=>∃ (j:Nat) (v:Int),j≤3∧i=.int .i64 ((k+1+j:Nat):Int)∧vv=.int .i64 v∧0≤v∧v < 32*64 ^ j∧zrv (3 - j) v ((lets s).drop (k+1+j))=zrv 3 (((s[k]).toNat:Int) - 240) ((lets s).drop (k+1))) (fun _ i=>k+1+3 - (intOf i).toNat)
   case atStart=>exact ⟨0,_,by omega,by go_num,rfl,by omega,by simp;omega,rfl⟩
   case round=>
    obtain ⟨j,v,hj,rfl,rfl,hv0,hv1,HR⟩:=hrel
    have hR:Hid (zrv (3 - j) v ((lets s).drop (k+1+j))=zrv 3 (((s[k]).toNat:Int) - 240) ((lets s).drop (k+1))):=HR
    clear HR
    have hvt:=zsI (by omega) hv1
    have ea:((k+1+j:Nat):Int)=(k:Int)+1+(j:Int):=by omega
    by_cases hlt:j < 3
    · have hi2:(j:Int) < 3:=by omega
      by_cases hin:k+1+j < s.size
      · have hi1:(k:Int)+1+(j:Int) < (s.size:Int):=by omega
        have hS:Hid (zrv 3 (((s[k]).toNat:Int) - 240) ((lets s).drop (k+1))=if 128≤(s[k+1+j]).toNat∧(s[k+1+j]).toNat≤191 then zrv (3 - (j+1)) (64*v+((s[k+1+j]).toNat:Int) - 128) ((lets s).drop (k+1+j+1)) else none):=by
         rw [←hR.out,zhG hin,show 3 - j=(3 - (j+1))+1 by omega,zrv];exact rfl
        clear hR
        have hcb:(s[k+1+j]).toNat < 256:=(s[k+1+j]).toNat_lt
        by_cases hc:128≤(s[k+1+j]).toNat∧(s[k+1+j]).toNat≤191
        · obtain ⟨hc0,hc1⟩:=hc
          have hc0':(128:Int)≤((s[k+1+j]).toNat:Int):=by omega
          have hc1':((s[k+1+j]).toNat:Int)≤191:=by omega
          have hbd:=zlD hv0 hv1 hc0' hc1'
          have hT:Hid (zrv (3 - (j+1)) (64*v+((s[k+1+j]).toNat:Int) - 128) ((lets s).drop (k+1+j+1))=zrv 3 (((s[k]).toNat:Int) - 240) ((lets s).drop (k+1))):=by rw [hS.out,if_pos ⟨hc0,hc1⟩];exact rfl
          have HB:Hid (0≤64*v+((s[k+1+j]).toNat:Int) - 128∧64*v+((s[k+1+j]).toNat:Int) - 128 < 32*64 ^ (j+1)):=hbd
          clear hS hbd
          go_wp2
          go_round
          case rel=>exact ⟨j+1,_,by omega,by go_num,rfl,HB.out.1,HB.out.2,hT.out⟩
          case measure=>simp [intOf];omega
        · have hE:Hid (zrv 3 (((s[k]).toNat:Int) - 240) ((lets s).drop (k+1))=none):=by rw [hS.out,if_neg hc];exact rfl
          have hcc:((s[k+1+j]).toNat:Int) < 128∨(191:Int) < ((s[k+1+j]).toNat:Int):=by omega
          clear hS hc
          rcases hcc with hcc | hcc
          all_goals
           go_wp2
           go_ret
           exact ⟨by rw [hE.out];rfl,rfl⟩
      · have hE:Hid (zrv 3 (((s[k]).toNat:Int) - 240) ((lets s).drop (k+1))=none):=by
         rw [←hR.out,zgM (by omega),show 3 - j=(3 - 1 - j)+1 by omega];exact rfl
        clear hR
        have hi1:¬ (k:Int)+1+(j:Int) < (s.size:Int):=by omega
        go_wp2
        go_ret
        exact ⟨by rw [hE.out];rfl,rfl⟩
    · obtain rfl:j=3:=by omega
      have hE:Hid (zrv 3 (((s[k]).toNat:Int) - 240) ((lets s).drop (k+1))=some v):=by rw [←hR.out];exact rfl
      clear hR
      by_cases hq:v < 65536∨1114111 < v∨(55296≤v∧v≤57343)
      · go_wp2
        all_goals go_ret
        all_goals refine ⟨?_,rfl⟩
        all_goals rw [hE.out,zHy hq]
        all_goals first
         | rfl
         | (exfalso;omega)
      · go_wp2
        all_goals go_ret
        all_goals refine ⟨?_,rfl⟩
        all_goals rw [hE.out,z9X hq]
        all_goals first
         | rfl
         | (exfalso;omega)

theorem zPC (s:ByteArray) (k:Nat) (w:World) (hs:s.size≤2000000) (hk:k < s.size):
 Calls Tryz.prog 165 #[.string s,.int .i64 k] w fun e w'=>e=.returned (.int .i64 (zZe ((lets s).drop k)))∧w'=w:=by
 have hcb:(s[k]).toNat < 256:=(s[k]).toNat_lt
 have hki:(k:Int) < (s.size:Int):=by omega
 rw [zhG hk]
 rw [zZe]
 by_cases h1:(s[k]).toNat < 128
 · rw [if_pos h1]
   have h1':((s[k]).toNat:Int) < 128:=by omega
   go_enter Tryz.func165,Tryz.ntmps165
   go_wp2
   go_ret
   exact ⟨rfl,rfl⟩
 rw [if_neg h1]
 by_cases h2:194≤(s[k]).toNat∧(s[k]).toNat < 224
 · rw [if_pos h2]
   exact z3K s k w hs hk 1 128 192 (Or.inl ⟨rfl,rfl,rfl,h2.1,h2.2⟩)
 rw [if_neg h2]
 by_cases h3:224≤(s[k]).toNat∧(s[k]).toNat < 240
 · rw [if_pos h3]
   exact z3K s k w hs hk 2 2048 224 (Or.inr (Or.inl ⟨rfl,rfl,rfl,h3.1,h3.2⟩))
 rw [if_neg h3]
 by_cases h4:240≤(s[k]).toNat∧(s[k]).toNat < 245
 · rw [if_pos h4]
   exact z3K s k w hs hk 3 65536 240 (Or.inr (Or.inr ⟨rfl,rfl,rfl,h4.1,h4.2⟩))
 rw [if_neg h4]
 have g1:¬ ((s[k]).toNat:Int) < 128:=by omega
 have g2:((s[k]).toNat:Int) < 194∨(245:Int)≤((s[k]).toNat:Int):=by omega
 clear h1 h2 h3 h4
 rcases g2 with g2 | g2
 all_goals
  go_enter Tryz.func165,Tryz.ntmps165
  go_wp2
  go_ret
  exact ⟨rfl,rfl⟩

def escR (l:List Nat):List UInt8×Int:=match zvTw l with | some (v,n)=>(Lib.encodeRune v,(n:Int)+1) | none=>([],0)

def fromL:List Nat:=[34,92,47,98,102,110,114,116]
def toL:List Int:=[34,92,47,8,12,10,13,9]

theorem zrR {c:Nat} {t:List Nat} (i:Nat) (h:i < 8) (hc:c=fromL.getD i 0):escR (c::t)=(Lib.encodeRune (toL.getD i 0),2):=by
 have:i=0∨i=1∨i=2∨i=3∨i=4∨i=5∨i=6∨i=7:=by omega
 rcases this with rfl | rfl | rfl | rfl | rfl | rfl | rfl | rfl <;> (simp [fromL] at hc;subst hc;rfl)
theorem zSx {c:Nat} {t:List Nat} (h:∀ i,i < 8→c≠fromL.getD i 0):escR (c::t)=if ((c:Int) == 117) then (match z1B t with | some (v,n)=>(Lib.encodeRune v,(n:Int)+2) | none=>([],0)) else ([],0):=by
 have h0:=h 0 (by omega);have h1:=h 1 (by omega);have h2:=h 2 (by omega);have h3:=h 3 (by omega)
 have h4:=h 4 (by omega);have h5:=h 5 (by omega);have h6:=h 6 (by omega);have h7:=h 7 (by omega)
 simp [fromL] at h0 h1 h2 h3 h4 h5 h6 h7
 unfold escR zvTw
 have e0:((c:Int) == 34)=false:=by simp;omega
 have e1:((c:Int) == 92)=false:=by simp;omega
 have e2:((c:Int) == 47)=false:=by simp;omega
 have e3:((c:Int) == 98)=false:=by simp;omega
 have e4:((c:Int) == 102)=false:=by simp;omega
 have e5:((c:Int) == 110)=false:=by simp;omega
 have e6:((c:Int) == 114)=false:=by simp;omega
 have e7:((c:Int) == 116)=false:=by simp;omega
 simp only [e0,e1,e2,e3,e4,e5,e6,e7]
 by_cases hu:((c:Int) == 117)=true
 · simp only [hu,if_true,Bool.false_eq_true,if_false]
   cases z1B t with
   | none=>rfl
   | some p=>obtain ⟨v,n⟩:=p;simp;omega
 · simp [hu]
end Go.Proofs.YtbbkihekjdffpaaGreatDoor
