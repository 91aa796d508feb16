/- Several texts in one. -/
import Derived.Test.YtbbkihekjdffpaaGreatDoorSrchPQ
import Derived.Deep.Cut
import Derived.Deep.LoopGhost
import Derived.Sort.WalkB12
import Derived.Sort.WalkB2
set_option maxHeartbeats 8000000
set_option maxRecDepth 1000000
namespace Go.Proofs.YtbbkihekjdffpaaGreatDoor.srch
open Tryz
open Go.RowKit Go.Shelf
open Go.Sort (swp size_swp grow grow_grow grow_empty alloc_eq_grow size_grow)
def ztS (z:Bool):TypeId:=match z with|false=>26|true=>177
def ztF (z:Bool):TypeId:=match z with|false=>262|true=>183
def ztE (z:Bool):TypeId:=match z with|false=>74|true=>181
def zsw (z:Bool):FuncId:=match z with|false=>196|true=>190
def zrot (z:Bool):FuncId:=match z with|false=>189|true=>174
def zsym (z:Bool):FuncId:=match z with|false=>172|true=>152
def zst (z:Bool):FuncId:=match z with|false=>149|true=>127
def zins (z:Bool):FuncId:=match z with|false=>171|true=>151
noncomputable def bsw (z:Bool):Func:=match z with|false=>Tryz.f196|true=>Tryz.f190
noncomputable def brot (z:Bool):Func:=match z with|false=>Tryz.f189|true=>Tryz.f174
noncomputable def bsym (z:Bool):Func:=match z with|false=>Tryz.f172|true=>Tryz.f152
noncomputable def bst (z:Bool):Func:=match z with|false=>Tryz.f149|true=>Tryz.f127
structure StyZ (z:Bool)(P:Program)(k:Nat):Prop where
 mixed:P.follows .mixedOrders=true
 t0:P.underlying 0=some (TypeDesc.tuple #[])
 a0:∀w,(isAgg 0).run P w=.ok false w
 z0:∀w,(Go.sizeOf 0).run P w=.ok 1 w
 v0:∀w,(zeroValue 0).run P w=.ok (Value.tuple #[]) w
 t3:P.underlying 3=some (TypeDesc.int IntKind.i64)
 a3:∀w,(isAgg 3).run P w=.ok false w
 z3:∀w,(Go.sizeOf 3).run P w=.ok 1 w
 v3:∀w,(zeroValue 3).run P w=.ok (Value.int IntKind.i64 0) w
 t4:P.underlying 4=some (TypeDesc.bool)
 a4:∀w,(isAgg 4).run P w=.ok false w
 z4:∀w,(Go.sizeOf 4).run P w=.ok 1 w
 v4:∀w,(zeroValue 4).run P w=.ok (Value.bool false) w
 tU:P.underlying 202=some (TypeDesc.int IntKind.u64)
 aU:∀w,(isAgg 202).run P w=.ok false w
 zU:∀w,(Go.sizeOf 202).run P w=.ok 1 w
 vU:∀w,(zeroValue 202).run P w=.ok (Value.int IntKind.u64 0) w
 tS:P.underlying (ztS z)=some (TypeDesc.slice (ztE z))
 aS:∀w,(isAgg (ztS z)).run P w=.ok false w
 zS:∀w,(Go.sizeOf (ztS z)).run P w=.ok 1 w
 vS:∀w,(zeroValue (ztS z)).run P w=.ok (Value.slice none 0 0) w
 tF:P.underlying (ztF z)=some (TypeDesc.func #[(ztE z),(ztE z)] #[3] false)
 aF:∀w,(isAgg (ztF z)).run P w=.ok false w
 zF:∀w,(Go.sizeOf (ztF z)).run P w=.ok 1 w
 vF:∀w,(zeroValue (ztF z)).run P w=.ok Value.nilFunc w
 aE:∀w,(isAgg (ztE z)).run P w=.ok true w
 zE:∀w,(Go.sizeOf (ztE z)).run P w=.ok k w
 fsw:P.funcs[zsw z]?=some (bsw z)
 frot:P.funcs[zrot z]?=some (brot z)
 fsym:P.funcs[zsym z]?=some (bsym z)
 fst:P.funcs[zst z]?=some (bst z)
 esw:∀args w,(callFunc (zsw z) args).run P w=.ok (.enter (zsw z) args) w
 erot:∀args w,(callFunc (zrot z) args).run P w=.ok (.enter (zrot z) args) w
 esym:∀args w,(callFunc (zsym z) args).run P w=.ok (.enter (zsym z) args) w
 eins:∀args w,(callFunc (zins z) args).run P w=.ok (.enter (zins z) args) w
theorem styO:StyZ false prog 10:=
 ⟨by kernel_rfl,underlying0,Tryz.isAgg0,Tryz.sizeOf0,Tryz.zeroValue0,underlying3,Tryz.isAgg3,Tryz.sizeOf3,Tryz.zeroValue3,underlying4,Tryz.isAgg4,Tryz.sizeOf4,Tryz.zeroValue4,
  underlying202,Tryz.isAgg202,Tryz.sizeOf202,Tryz.zeroValue202,underlying26,Tryz.isAgg26,Tryz.sizeOf26,Tryz.zeroValue26,underlying262,Tryz.isAgg262,Tryz.sizeOf262,Tryz.zeroValue262,Tryz.isAgg74,Tryz.sizeOf74,
  func196,func189,func172,func149,
  enters_of func196 (by kernel_rfl) rfl,enters_of func189 (by kernel_rfl) rfl,enters_of func172 (by kernel_rfl) rfl,enters_of func171 (by kernel_rfl) rfl⟩
theorem styH:StyZ true prog 11:=
 ⟨by kernel_rfl,underlying0,Tryz.isAgg0,Tryz.sizeOf0,Tryz.zeroValue0,underlying3,Tryz.isAgg3,Tryz.sizeOf3,Tryz.zeroValue3,underlying4,Tryz.isAgg4,Tryz.sizeOf4,Tryz.zeroValue4,
  underlying202,Tryz.isAgg202,Tryz.sizeOf202,Tryz.zeroValue202,underlying177,Tryz.isAgg177,Tryz.sizeOf177,Tryz.zeroValue177,underlying183,Tryz.isAgg183,Tryz.sizeOf183,Tryz.zeroValue183,Tryz.isAgg181,Tryz.sizeOf181,
  func190,func174,func152,func127,
  enters_of func190 (by kernel_rfl) rfl,enters_of func174 (by kernel_rfl) rfl,enters_of func152 (by kernel_rfl) rfl,enters_of func151 (by kernel_rfl) rfl⟩
section
variable {α:Type} [Inhabited α] {z:Bool} {P:Program} {k:Nat}
theorem z9a (L:StyZ z P k) (enc:α→List Value) (g:Nat) (cb:Array Value) (blk off cap a b n:Nat) (d0 d:Array α) (w0 w:World)
 (R:RowK enc k w0 blk off d0) (hs:d0.size=d.size) (S:SWK enc k w0 blk off d w) (ha:a+n≤b) (hb:b+n≤d.size) (hsz:d.size<4611686018427387904):
 Calls P (zsw z) #[.slice (some ⟨blk,off,none⟩) d.size cap,.int .i64 a,.int .i64 b,.int .i64 n,.func (.func g) #[] cb] w fun e w'=>e=.returned (.tuple #[])∧SWK enc k w0 blk off (zaR d a b n) w':=by
 obtain⟨mixed,t0,a0,z0,v0,t3,a3,z3,v3,t4,a4,z4,v4,tU,aU,zU,vU,tS,aS,zS,vS,tF,aF,zF,vF,aE,zE,fsw,frot,fsym,fst,esw,erot,esym,eins⟩:=L;clear frot fsym fst esw erot esym eins;have S0:Aside (SWK enc k w0 blk off d w):=S;clear S;cases z
 all_goals simp only [ztS,ztF,ztE,zsw,bsw]at tS aS zS vS tF aF zF vF aE zE fsw⊢
 go_enter fsw,ntmps196
 rotate_left
 go_enter fsw,ntmps190
 all_goals
  go_wp2;go_loopg [10] n (fun kx s10 wr=>∃(i:Nat) (dk:Array α),s10=.int .i64 i∧i+kx=n∧dk.size=d.size∧Aside (SWK enc k w0 blk off dk wr)∧Hid (swLoop a b kx i dk=zaR d a b n))
  case atStart=>exact⟨0,d,rfl,by omega,rfl,S0,rfl⟩
  case round=>
   clear S0;obtain⟨i,dk,rfl,hik,hds,S1,HE⟩:=hrel;cases gk with
   |zero=>
     have hlt:¬(i:Int)<(n:Int):=(by omega);go_wp2;go_end0;exact⟨rfl,by rw[←HE.out];exact S1.out⟩
   |succ kx=>
     have hlt:(i:Int)<(n:Int):=(by omega);go_wp2_with fail;have ea:((a:Int)+(i:Int)).toNat=a+i:=(by omega);have pa:(0:Int)≤(a:Int)+(i:Int):=(by omega);have ba:(a:Int)+(i:Int)<(d.size:Int):=(by omega);have ra:IntKind.i64.wrap ((a:Int)+(i:Int))=(a:Int)+(i:Int):=(by rw[IntKind.wrap_i64];omega);have ec:((b:Int)+(i:Int)).toNat=b+i:=(by omega);have pc:(0:Int)≤(b:Int)+(i:Int):=(by omega);have bc:(b:Int)+(i:Int)<(d.size:Int):=(by omega);have rc:IntKind.i64.wrap ((b:Int)+(i:Int))=(b:Int)+(i:Int):=(by rw[IntKind.wrap_i64];omega);have S2:Aside (SWK enc k w0 blk off (swp dk (a+i) (b+i)) ((wr.drew.setCells blk (off+(a+i)*k) (enc dk[b+i]!)).setCells blk (off+(b+i)*k) (enc dk[a+i]!))):=S1.out.swapped R (a+i) (b+i) (by omega) (by omega);have l1:=S1.out.ld1 R (by omega) P (a+i) (by omega);have l2:=S1.out.ld1 R (by omega) P (b+i) (by omega);have s1:=S1.out.st1 R (by omega) P (a+i) (by omega) dk[b+i]!;have s2:=S1.out.st2 R (by omega) P (a+i) (b+i) (by omega) (by omega) dk[b+i]! dk[a+i]!;have n1:(enc dk[a+i]!).length=k:=R.hk _;have n2:(enc dk[b+i]!).length=k:=R.hk _;generalize enc dk[a+i]! =cI at S2 l1 s2 n1;generalize enc dk[b+i]! =cJ at S2 l2 s1 s2 n2;clear S1;go_wp2_with fail;go_big_region_o;clear l1 l2 s1 s2;generalize (wr.drew.setCells blk (off+(a+i)*k) cJ).setCells blk (off+(b+i)*k) cI=w2 at S2⊢;go_wp2;go_roundg kx
     case measure=>omega
     case rel=>exact⟨i+1,swp dk (a+i) (b+i),by go_num,by omega,by rw[size_swp];exact hds,S2,HE⟩
end
section
variable {α:Type} [Inhabited α] {z:Bool} {P:Program} {k:Nat}
theorem zTp (L:StyZ z P k) (enc:α→List Value) (g:Nat) (cb:Array Value) (blk off cap a m b:Nat) (d0 d:Array α) (w0 w:World)
 (R:RowK enc k w0 blk off d0) (hs:d0.size=d.size) (S:SWK enc k w0 blk off d w) (ha:a<m) (hm:m<b) (hb:b≤d.size) (hsz:d.size<4611686018427387904):
 Calls P (zrot z) #[.slice (some ⟨blk,off,none⟩) d.size cap,.int .i64 a,.int .i64 m,.int .i64 b,.func (.func g) #[] cb] w fun e w'=>e=.returned (.tuple #[])∧SWK enc k w0 blk off (rot d a m b) w':=by
 have LL:Aside (StyZ _ P k):=L;obtain⟨mixed,t0,a0,z0,v0,t3,a3,z3,v3,t4,a4,z4,v4,tU,aU,zU,vU,tS,aS,zS,vS,tF,aF,zF,vF,aE,zE,fsw,frot,fsym,fst,esw,erot,esym,eins⟩:=L;clear fsw fsym fst erot esym eins;have S0:Aside (SWK enc k w0 blk off d w):=S;clear S;have RR:Aside (RowK enc k w0 blk off d0):=R;clear R;have ei:((m-a:Nat):Int)=(m:Int)-(a:Int):=by omega
 have ej:((b-m:Nat):Int)=(b:Int)-(m:Int):=by omega
 have EI:Hid _:=ei;have EJ:Hid _:=ej;clear ei ej;cases z
 all_goals simp only [ztS,ztF,ztE,zsw,zrot,brot]at tS aS zS vS tF aF zF vF aE zE frot esw⊢
 go_enter frot,Tryz.ntmps189
 rotate_left
 go_enter frot,Tryz.ntmps174
 all_goals
  go_wp2;go_loopg [10,11] (b-a) (fun kx s10 s11 wr=>∃(i j:Nat) (dk:Array α),s10=.int .i64 i∧s11=.int .i64 j∧0<i∧0<j∧i+j≤kx∧a+i≤m∧m+j≤b∧dk.size=d.size∧Aside (SWK enc k w0 blk off dk wr)∧Hid (rotLoop m kx i j dk=rot d a m b))
  case atStart=>exact⟨m-a,b-m,d,by rw[EI.out],by rw[EJ.out],by omega,by omega,by omega,by omega,by omega,rfl,S0,rfl⟩
  case round=>
   clear S0 EI EJ;obtain⟨i,j,dk,rfl,rfl,hi0,hj0,hij,hai,hjb,hds,S1,HE⟩:=hrel;obtain⟨kx,rfl⟩:∃kx,gk=kx+1:=⟨gk-1,by omega⟩;by_cases he:i=j
   ·subst he;have HE2:Hid (zaR dk (m-i) m i=rot d a m b):=by
     show _=_;rw[←HE.out];show _=(if i=i then zaR dk (m-i) m i else _);rw[if_pos rfl]
    clear HE;have hc:=z9a LL.out enc g cb blk off cap (m-i) m i d0 dk w0 wr RR.out (by omega) S1.out (by omega) (by omega) (by omega);rw[hds,show((m-i:Nat):Int)=(m:Int)-(i:Int) by omega]at hc;have hwr:IntKind.i64.wrap ((m:Int)-(i:Int))=(m:Int)-(i:Int):=(by rw[IntKind.wrap_i64];omega);clear S1;go_wp2_with ((first|go_at_fn 196|go_at_fn 190);refine hc.mono ?_;rintro e w1 ⟨rfl,S3⟩);go_end0;exact⟨rfl,by rw[←HE2.out];exact S3⟩
   ·by_cases hlt:j<i
    ·have HE2:Hid (rotLoop m kx (i-j) j (zaR dk (m-i) m j)=rot d a m b):=by
      show _=_;rw[←HE.out];show _=(if i=j then _ else if j<i then rotLoop m kx (i-j) j (zaR dk (m-i) m j)else _);rw[if_neg he,if_pos hlt]
     clear HE;have hne:¬((i:Int)=(j:Int)):=(by omega);have hz:(j:Int)<(i:Int):=(by omega);have hc:=z9a LL.out enc g cb blk off cap (m-i) m j d0 dk w0 wr RR.out (by omega) S1.out (by omega) (by omega) (by omega);rw[hds,show((m-i:Nat):Int)=(m:Int)-(i:Int) by omega]at hc;have hwr:IntKind.i64.wrap ((m:Int)-(i:Int))=(m:Int)-(i:Int):=(by rw[IntKind.wrap_i64];omega);have hwi:IntKind.i64.wrap ((i:Int)-(j:Int))=(i:Int)-(j:Int):=(by rw[IntKind.wrap_i64];omega);clear S1;go_wp2_with ((first|go_at_fn 196|go_at_fn 190);refine hc.mono ?_;rintro e w1 ⟨rfl,S3⟩);go_roundg kx
     case measure=>omega
     case rel=>exact⟨i-j,j,zaR dk (m-i) m j,by congr 1;omega,rfl,by omega,by omega,by omega,by omega,by omega,by rw[z1k];exact hds,S3,HE2⟩
    ·have HE2:Hid (rotLoop m kx i (j-i) (zaR dk (m-i) (m+j-i) i)=rot d a m b):=by
      show _=_;rw[←HE.out];show _=(if i=j then _ else if j<i then _ else rotLoop m kx i (j-i) (zaR dk (m-i) (m+j-i) i));rw[if_neg he,if_neg hlt]
     clear HE;have hne:¬((i:Int)=(j:Int)):=(by omega);have hz:¬(j:Int)<(i:Int):=(by omega);have hc:=z9a LL.out enc g cb blk off cap (m-i) (m+j-i) i d0 dk w0 wr RR.out (by omega) S1.out (by omega) (by omega) (by omega);rw[hds,show((m-i:Nat):Int)=(m:Int)-(i:Int) by omega,show((m+j-i:Nat):Int)=(m:Int)+(j:Int)-(i:Int) by omega]at hc;have hwr:IntKind.i64.wrap ((m:Int)-(i:Int))=(m:Int)-(i:Int):=(by rw[IntKind.wrap_i64];omega);have hwm:IntKind.i64.wrap ((m:Int)+(j:Int))=(m:Int)+(j:Int):=(by rw[IntKind.wrap_i64];omega);have hwn:IntKind.i64.wrap ((m:Int)+(j:Int)-(i:Int))=(m:Int)+(j:Int)-(i:Int):=(by rw[IntKind.wrap_i64];omega);have hwi:IntKind.i64.wrap ((j:Int)-(i:Int))=(j:Int)-(i:Int):=(by rw[IntKind.wrap_i64];omega);clear S1;go_wp2_with ((first|go_at_fn 196|go_at_fn 190);refine hc.mono ?_;rintro e w1 ⟨rfl,S3⟩);go_roundg kx
     case measure=>omega
     case rel=>exact⟨i,j-i,zaR dk (m-i) (m+j-i) i,rfl,by congr 1;omega,by omega,by omega,by omega,by omega,by omega,by rw[z1k];exact hds,S3,HE2⟩
end
section
variable {α:Type} [Inhabited α] {z:Bool} {P:Program} {k:Nat}
theorem z6J (L:StyZ z P k) (enc:α→List Value) (cf:α→α→Int) (g:Nat) (cb:Array Value) (blk off cap a m b:Nat) (d0 d:Array α) (w0 w:World)
 (eg:∀args w,(callFunc g args).run P w=.ok (.enter g args) w) (hcmp:CmpLays P g cb enc k cf blk off d0.size w0)
 (R:RowK enc k w0 blk off d0) (hs:d0.size=d.size) (S:SWK enc k w0 blk off d w) (ha:m-a=1) (hm:m<b) (hb:b≤d.size) (hsz:d.size<4611686018427387904):
 Calls P (zsym z) #[.slice (some ⟨blk,off,none⟩) d.size cap,.int .i64 a,.int .i64 m,.int .i64 b,.func (.func g) #[] cb] w fun e w'=>e=.returned (.tuple #[])∧SWK enc k w0 blk off (upTo (half (fun h=>ltOf cf d[h]! d[a]!) (b-m+1) m b-1) (b-a) a d) w':=by
 obtain⟨mixed,t0,a0,z0,v0,t3,a3,z3,v3,t4,a4,z4,v4,tU,aU,zU,vU,tS,aS,zS,vS,tF,aF,zF,vF,aE,zE,fsw,frot,fsym,fst,esw,erot,esym,eins⟩:=L;clear fsw frot fst erot esw esym eins;have HC:Aside _:=hcmp;clear hcmp;have S0:Aside (SWK enc k w0 blk off d w):=S;clear S;have RR:Aside (RowK enc k w0 blk off d0):=R;clear R;obtain rfl:m=a+1:=by omega
 obtain⟨H,hH⟩:∃H,H=half (fun h=>ltOf cf d[h]! d[a]!) (b-(a+1)+1) (a+1) b:=⟨_,rfl⟩;rw[←hH];have hHle:=zw6 (fun h=>ltOf cf d[h]! d[a]!) (b-(a+1)+1) (a+1) b (by omega);rw[←hH]at hHle;have HH:Hid _:=hH;clear hH ha;have hw1:IntKind.i64.wrap ((a:Int)+1-(a:Int))=1:=by rw[IntKind.wrap_i64];omega
 have hq1:((a:Int)+1-(a:Int))=1:=by omega
 cases z
 all_goals simp only [ztS,ztF,ztE,zsym,bsym]at tS aS zS vS tF aF zF vF aE zE fsym⊢
 go_enter fsym,ntmps172
 rotate_left
 go_enter fsym,ntmps152
 all_goals
  go_wp2;go_loopg [10,11] (b-(a+1)+1) (fun kx s10 s11 wr=>∃(i j:Nat),s10=.int .i64 i∧s11=.int .i64 j∧(a+1)≤i∧i≤j∧j≤b∧j-i+1≤kx∧Aside (SWK enc k w0 blk off d wr)∧Hid (half (fun h=>ltOf cf d[h]! d[a]!) kx i j=H))
  case atStart=>exact⟨(a+1),b,by go_num,by go_num,Nat.le_refl _,by omega,Nat.le_refl _,by omega,S0,HH.out.symm⟩
  case round=>
   clear S0 HH;obtain⟨i,j,rfl,rfl,hai,hij,hjb,hkx,S1,HE⟩:=hrel;obtain⟨kx,rfl⟩:∃kx,gk=kx+1:=⟨gk-1,by omega⟩;by_cases hlt:i<j
   ·have hz:(i:Int)<(j:Int):=(by omega);obtain⟨h,hh⟩:∃h:Nat,h=(i+j)/2:=⟨_,rfl⟩;have HE2:Hid ((if ltOf cf d[h]! d[a]! then half (fun h=>ltOf cf d[h]! d[a]!) kx (h+1) j else half (fun h=>ltOf cf d[h]! d[a]!) kx i h)=H):=by
     show _=_;rw[←HE.out,hh];show _=(if i<j then(if ltOf cf d[((i+j)/2)]! d[a]! then half (fun h=>ltOf cf d[h]! d[a]!) kx ((i+j)/2+1) j else half (fun h=>ltOf cf d[h]! d[a]!) kx i ((i+j)/2))else i);rw[if_pos hlt]
    clear HE;have hdiv:((i:Int)+(j:Int))/2=(h:Int):=(by omega);have hb1:i≤h∧h<j:=(by omega);have hwa:IntKind.i64.wrap ((i:Int)+(j:Int))=(i:Int)+(j:Int):=(by rw[IntKind.wrap_i64];omega);have hwu:IntKind.u64.wrap ((i:Int)+(j:Int))=(i:Int)+(j:Int):=(by rw[IntKind.wrap_u64];omega);have hwh:IntKind.i64.wrap (h:Int)=(h:Int):=(by rw[IntKind.wrap_i64];omega);have hwv:IntKind.u64.wrap (h:Int)=(h:Int):=(by rw[IntKind.wrap_u64];omega);clear hh;cases hlv:ltOf cf d[h]! d[a]! with
    |true=>
      have HE3:Hid (half (fun h=>ltOf cf d[h]! d[a]!) kx (h+1) j=H):=by
       have:=HE2.out;rw[hlv]at this;exact this
      clear HE2;have ea1:((h:Int)).toNat=h:=(by omega);have pa1:(0:Int)≤(h:Int):=(by omega);have ba1:(h:Int)<(d.size:Int):=(by omega);have ra1:IntKind.i64.wrap ((h:Int))=(h:Int):=(by rw[IntKind.wrap_i64];omega);have ec1:((a:Int)).toNat=a:=(by omega);have pc1:(0:Int)≤(a:Int):=(by omega);have bc1:(a:Int)<(d.size:Int):=(by omega);have rc1:IntKind.i64.wrap ((a:Int))=(a:Int):=(by rw[IntKind.wrap_i64];omega);obtain⟨x1,hx1⟩:∃x,x=d[h]!:=⟨_,rfl⟩;obtain⟨y1,hy1⟩:∃x,x=d[a]!:=⟨_,rfl⟩;have la1:=S1.out.ld RR.out (by omega) P (h) (by omega);have lb1:=S1.out.ld RR.out (by omega) P (a) (by omega);rw[←hx1]at la1;rw[←hy1]at lb1;have hc1:=S1.out.cmp HC.out (by omega) x1 y1;have hv1:cf x1 y1<0:=(by rw[hx1,hy1];exact of_decide_eq_true hlv);have hd1:decide (cf x1 y1<0)=true:=decide_eq_true hv1;clear hx1 hy1;go_wp2_with fail;go_quiet_grown (first|(go_at_fn g;refine Calls.grown_of (hc1 _ _)));have S2:Aside (SWK enc k w0 blk off d (grow (wr.drewN nq) osq)):=S1.out.grown nq osq;clear la1 lb1 hc1 S1 ea1 pa1 ba1 ra1 ec1 pc1 bc1 rc1;generalize grow (wr.drewN nq) osq=wu1 at S2⊢;clear nq osq;go_wp2;go_roundg kx
      case measure=>omega
      case rel=>exact⟨h+1,j,by go_num,by go_num,by omega,by omega,by omega,by omega,S2,HE3⟩
    |false=>
      have HE3:Hid (half (fun h=>ltOf cf d[h]! d[a]!) kx i h=H):=by
       have:=HE2.out;rw[hlv]at this;exact this
      clear HE2;have ea1:((h:Int)).toNat=h:=(by omega);have pa1:(0:Int)≤(h:Int):=(by omega);have ba1:(h:Int)<(d.size:Int):=(by omega);have ra1:IntKind.i64.wrap ((h:Int))=(h:Int):=(by rw[IntKind.wrap_i64];omega);have ec1:((a:Int)).toNat=a:=(by omega);have pc1:(0:Int)≤(a:Int):=(by omega);have bc1:(a:Int)<(d.size:Int):=(by omega);have rc1:IntKind.i64.wrap ((a:Int))=(a:Int):=(by rw[IntKind.wrap_i64];omega);obtain⟨x1,hx1⟩:∃x,x=d[h]!:=⟨_,rfl⟩;obtain⟨y1,hy1⟩:∃x,x=d[a]!:=⟨_,rfl⟩;have la1:=S1.out.ld RR.out (by omega) P (h) (by omega);have lb1:=S1.out.ld RR.out (by omega) P (a) (by omega);rw[←hx1]at la1;rw[←hy1]at lb1;have hc1:=S1.out.cmp HC.out (by omega) x1 y1;have hv1:¬cf x1 y1<0:=(by rw[hx1,hy1];exact of_decide_eq_false hlv);have hd1:decide (cf x1 y1<0)=false:=decide_eq_false hv1;clear hx1 hy1;go_wp2_with fail;go_quiet_grown (first|(go_at_fn g;refine Calls.grown_of (hc1 _ _)));have S2:Aside (SWK enc k w0 blk off d (grow (wr.drewN nq) osq)):=S1.out.grown nq osq;clear la1 lb1 hc1 S1 ea1 pa1 ba1 ra1 ec1 pc1 bc1 rc1;generalize grow (wr.drewN nq) osq=wu1 at S2⊢;clear nq osq;go_wp2;go_roundg kx
      case measure=>omega
      case rel=>exact⟨i,h,by go_num,by go_num,by omega,by omega,by omega,by omega,S2,HE3⟩
   ·have hz:¬(i:Int)<(j:Int):=(by omega);obtain rfl:i=H:=by
     rw[←HE.out];show _=(if i<j then _ else i);rw[if_neg hlt]
    clear HE;clear hij hjb hkx hai;have hwi:IntKind.i64.wrap ((i:Int)-1)=(i:Int)-1:=(by rw[IntKind.wrap_i64];omega);go_wp2;go_loopg [13] (b-a) (fun ky s13 wr2=>∃(q:Nat) (dk:Array α),s13=.int .i64 q∧a≤q∧q≤i-1∧i-1-q≤ky∧dk.size=d.size∧Aside (SWK enc k w0 blk off dk wr2)∧Hid (upTo (i-1) ky q dk=upTo (i-1) (b-a) a d))
    case atStart=>exact⟨a,d,rfl,Nat.le_refl _,by omega,by omega,rfl,S1,rfl⟩
    case round=>
     clear S1;obtain⟨q,dk,rfl,haq,hqi,hky,hds,S1,HE⟩:=hrel;by_cases hq:q<i-1
     ·obtain⟨ky,rfl⟩:∃ky,gk=ky+1:=⟨gk-1,by omega⟩;have HE2:Hid (upTo (i-1) ky (q+1) (swp dk q (q+1))=upTo (i-1) (b-a) a d):=by
       show _=_;rw[←HE.out];show _=(if q<i-1 then _ else dk);rw[if_pos hq]
      clear HE;have hz2:(q:Int)<(i:Int)-1:=(by omega);go_wp2_with fail;have ea2:((q:Int)).toNat=q:=(by omega);have pa2:(0:Int)≤(q:Int):=(by omega);have ba2:(q:Int)<(d.size:Int):=(by omega);have ra2:IntKind.i64.wrap ((q:Int))=(q:Int):=(by rw[IntKind.wrap_i64];omega);have ec2:((q:Int)+1).toNat=q+1:=(by omega);have pc2:(0:Int)≤(q:Int)+1:=(by omega);have bc2:(q:Int)+1<(d.size:Int):=(by omega);have rc2:IntKind.i64.wrap ((q:Int)+1)=(q:Int)+1:=(by rw[IntKind.wrap_i64];omega);have S2:Aside (SWK enc k w0 blk off (swp dk (q) (q+1)) ((wr.drew.setCells blk (off+(q)*k) (enc dk[q+1]!)).setCells blk (off+(q+1)*k) (enc dk[q]!))):=S1.out.swapped RR.out (q) (q+1) (by omega) (by omega);have l2a:=S1.out.ld1 RR.out (by omega) P (q) (by omega);have l2b:=S1.out.ld1 RR.out (by omega) P (q+1) (by omega);have s2a:=S1.out.st1 RR.out (by omega) P (q) (by omega) dk[q+1]!;have s2b:=S1.out.st2 RR.out (by omega) P (q) (q+1) (by omega) (by omega) dk[q+1]! dk[q]!;have n2a:(enc dk[q]!).length=k:=RR.out.hk _;have n2b:(enc dk[q+1]!).length=k:=RR.out.hk _;generalize enc dk[q]! =cI2 at S2 l2a s2b n2a;generalize enc dk[q+1]! =cJ2 at S2 l2b s2a s2b n2b;clear S1;go_wp2_with fail;go_big_region_o;clear l2a l2b s2a s2b;generalize (wr.drew.setCells blk (off+(q)*k) cJ2).setCells blk (off+(q+1)*k) cI2=wu2 at S2⊢;go_wp2;go_roundg ky
      case measure=>omega
      case rel=>exact⟨q+1,swp dk q (q+1),by go_num,by omega,by omega,by omega,by rw[size_swp];exact hds,S2,HE2⟩
     ·have HE2:dk=upTo (i-1) (b-a) a d:=by
       rw[←HE.out];cases gk with
       |zero=>rfl
       |succ n=>show _=(if q<i-1 then _ else dk);rw[if_neg hq]
      have HE3:Hid _:=HE2;clear HE HE2;have hz2:¬(q:Int)<(i:Int)-1:=(by omega);go_wp2
      (try simp only [Exit.inBlock,Exit.then])
      refine bodyPost_ret (results_none rfl _ _ _) rfl ?_;exact⟨rfl,by rw[←HE3.out];exact S1.out⟩
theorem zow (L:StyZ z P k) (enc:α→List Value) (cf:α→α→Int) (g:Nat) (cb:Array Value) (blk off cap a m b:Nat) (d0 d:Array α) (w0 w:World)
 (eg:∀args w,(callFunc g args).run P w=.ok (.enter g args) w) (hcmp:CmpLays P g cb enc k cf blk off d0.size w0)
 (R:RowK enc k w0 blk off d0) (hs:d0.size=d.size) (S:SWK enc k w0 blk off d w) (hna:¬m-a=1) (ham:a<m) (hm:b-m=1) (hb:b≤d.size) (hsz:d.size<4611686018427387904):
 Calls P (zsym z) #[.slice (some ⟨blk,off,none⟩) d.size cap,.int .i64 a,.int .i64 m,.int .i64 b,.func (.func g) #[] cb] w fun e w'=>e=.returned (.tuple #[])∧SWK enc k w0 blk off (downTo (half (fun h=>!ltOf cf d[m]! d[h]!) (m-a+1) a m) (m-a) m d) w':=by
 obtain⟨mixed,t0,a0,z0,v0,t3,a3,z3,v3,t4,a4,z4,v4,tU,aU,zU,vU,tS,aS,zS,vS,tF,aF,zF,vF,aE,zE,fsw,frot,fsym,fst,esw,erot,esym,eins⟩:=L;clear fsw frot fst erot esw esym eins;have HC:Aside _:=hcmp;clear hcmp;have S0:Aside (SWK enc k w0 blk off d w):=S;clear S;have RR:Aside (RowK enc k w0 blk off d0):=R;clear R;have hbm:b=m+1:=by omega
 obtain⟨H,hH⟩:∃H,H=half (fun h=>!ltOf cf d[m]! d[h]!) (m-a+1) a m:=⟨_,rfl⟩;rw[←hH];have hHle:=zw6 (fun h=>!ltOf cf d[m]! d[h]!) (m-a+1) a m (by omega);rw[←hH]at hHle;have HH:Hid _:=hH;have HBM:Hid _:=hbm;clear hH hm;have hw1:IntKind.i64.wrap ((m:Int)-(a:Int))=(m:Int)-(a:Int):=by rw[IntKind.wrap_i64];omega
 have hq1:(((m:Int)-(a:Int))==1)=false:=by simp;omega
 have hw2:IntKind.i64.wrap ((b:Int)-(m:Int))=1:=by rw[IntKind.wrap_i64];omega
 have hq2:((b:Int)-(m:Int))=1:=by omega
 have hbd:m+1≤d.size:=by omega
 clear hbm;cases z
 all_goals simp only [ztS,ztF,ztE,zsym,bsym]at tS aS zS vS tF aF zF vF aE zE fsym⊢
 go_enter fsym,ntmps172
 rotate_left
 go_enter fsym,ntmps152
 all_goals
  go_wp2;go_loopg [14,15] (m-a+1) (fun kx s10 s11 wr=>∃(i j:Nat),s10=.int .i64 i∧s11=.int .i64 j∧a≤i∧i≤j∧j≤m∧j-i+1≤kx∧Aside (SWK enc k w0 blk off d wr)∧Hid (half (fun h=>!ltOf cf d[m]! d[h]!) kx i j=H))
  case atStart=>exact⟨a,m,by go_num,by go_num,Nat.le_refl _,by omega,Nat.le_refl _,by omega,S0,HH.out.symm⟩
  case round=>
   clear S0 HH;obtain⟨i,j,rfl,rfl,hai,hij,hjb,hkx,S1,HE⟩:=hrel;obtain⟨kx,rfl⟩:∃kx,gk=kx+1:=⟨gk-1,by omega⟩;by_cases hlt:i<j
   ·have hz:(i:Int)<(j:Int):=(by omega);obtain⟨h,hh⟩:∃h:Nat,h=(i+j)/2:=⟨_,rfl⟩;have HE2:Hid ((if !ltOf cf d[m]! d[h]! then half (fun h=>!ltOf cf d[m]! d[h]!) kx (h+1) j else half (fun h=>!ltOf cf d[m]! d[h]!) kx i h)=H):=by
     show _=_;rw[←HE.out,hh];show _=(if i<j then(if !ltOf cf d[m]! d[((i+j)/2)]! then half (fun h=>!ltOf cf d[m]! d[h]!) kx ((i+j)/2+1) j else half (fun h=>!ltOf cf d[m]! d[h]!) kx i ((i+j)/2))else i);rw[if_pos hlt]
    clear HE;have hdiv:((i:Int)+(j:Int))/2=(h:Int):=(by omega);have hb1:i≤h∧h<j:=(by omega);have hwa:IntKind.i64.wrap ((i:Int)+(j:Int))=(i:Int)+(j:Int):=(by rw[IntKind.wrap_i64];omega);have hwu:IntKind.u64.wrap ((i:Int)+(j:Int))=(i:Int)+(j:Int):=(by rw[IntKind.wrap_u64];omega);have hwh:IntKind.i64.wrap (h:Int)=(h:Int):=(by rw[IntKind.wrap_i64];omega);have hwv:IntKind.u64.wrap (h:Int)=(h:Int):=(by rw[IntKind.wrap_u64];omega);clear hh;cases hlv:ltOf cf d[m]! d[h]! with
    |true=>
      have HE3:Hid (half (fun h=>!ltOf cf d[m]! d[h]!) kx i h=H):=by
       have:=HE2.out;rw[hlv]at this;exact this
      clear HE2;have ea1:((m:Int)).toNat=m:=(by omega);have pa1:(0:Int)≤(m:Int):=(by omega);have ba1:(m:Int)<(d.size:Int):=(by omega);have ra1:IntKind.i64.wrap ((m:Int))=(m:Int):=(by rw[IntKind.wrap_i64];omega);have ec1:((h:Int)).toNat=h:=(by omega);have pc1:(0:Int)≤(h:Int):=(by omega);have bc1:(h:Int)<(d.size:Int):=(by omega);have rc1:IntKind.i64.wrap ((h:Int))=(h:Int):=(by rw[IntKind.wrap_i64];omega);obtain⟨x1,hx1⟩:∃x,x=d[m]!:=⟨_,rfl⟩;obtain⟨y1,hy1⟩:∃x,x=d[h]!:=⟨_,rfl⟩;have la1:=S1.out.ld RR.out (by omega) P (m) (by omega);have lb1:=S1.out.ld RR.out (by omega) P (h) (by omega);rw[←hx1]at la1;rw[←hy1]at lb1;have hc1:=S1.out.cmp HC.out (by omega) x1 y1;have hv1:cf x1 y1<0:=(by rw[hx1,hy1];exact of_decide_eq_true hlv);have hd1:decide (cf x1 y1<0)=true:=decide_eq_true hv1;clear hx1 hy1;go_wp2_with fail;go_quiet_grown (first|(go_at_fn g;refine Calls.grown_of (hc1 _ _)));have S2:Aside (SWK enc k w0 blk off d (grow (wr.drewN nq) osq)):=S1.out.grown nq osq;clear la1 lb1 hc1 S1 ea1 pa1 ba1 ra1 ec1 pc1 bc1 rc1;generalize grow (wr.drewN nq) osq=wu1 at S2⊢;clear nq osq;go_wp2;go_roundg kx
      case measure=>omega
      case rel=>exact⟨i,h,by go_num,by go_num,by omega,by omega,by omega,by omega,S2,HE3⟩
    |false=>
      have HE3:Hid (half (fun h=>!ltOf cf d[m]! d[h]!) kx (h+1) j=H):=by
       have:=HE2.out;rw[hlv]at this;exact this
      clear HE2;have ea1:((m:Int)).toNat=m:=(by omega);have pa1:(0:Int)≤(m:Int):=(by omega);have ba1:(m:Int)<(d.size:Int):=(by omega);have ra1:IntKind.i64.wrap ((m:Int))=(m:Int):=(by rw[IntKind.wrap_i64];omega);have ec1:((h:Int)).toNat=h:=(by omega);have pc1:(0:Int)≤(h:Int):=(by omega);have bc1:(h:Int)<(d.size:Int):=(by omega);have rc1:IntKind.i64.wrap ((h:Int))=(h:Int):=(by rw[IntKind.wrap_i64];omega);obtain⟨x1,hx1⟩:∃x,x=d[m]!:=⟨_,rfl⟩;obtain⟨y1,hy1⟩:∃x,x=d[h]!:=⟨_,rfl⟩;have la1:=S1.out.ld RR.out (by omega) P (m) (by omega);have lb1:=S1.out.ld RR.out (by omega) P (h) (by omega);rw[←hx1]at la1;rw[←hy1]at lb1;have hc1:=S1.out.cmp HC.out (by omega) x1 y1;have hv1:¬cf x1 y1<0:=(by rw[hx1,hy1];exact of_decide_eq_false hlv);have hd1:decide (cf x1 y1<0)=false:=decide_eq_false hv1;clear hx1 hy1;go_wp2_with fail;go_quiet_grown (first|(go_at_fn g;refine Calls.grown_of (hc1 _ _)));have S2:Aside (SWK enc k w0 blk off d (grow (wr.drewN nq) osq)):=S1.out.grown nq osq;clear la1 lb1 hc1 S1 ea1 pa1 ba1 ra1 ec1 pc1 bc1 rc1;generalize grow (wr.drewN nq) osq=wu1 at S2⊢;clear nq osq;go_wp2;go_roundg kx
      case measure=>omega
      case rel=>exact⟨h+1,j,by go_num,by go_num,by omega,by omega,by omega,by omega,S2,HE3⟩
   ·have hz:¬(i:Int)<(j:Int):=(by omega);obtain rfl:i=H:=by
     rw[←HE.out];show _=(if i<j then _ else i);rw[if_neg hlt]
    clear HE;clear hij hjb hkx;go_wp2;go_loopg [17] (m-a) (fun ky s17 wr2=>∃(q:Nat) (dk:Array α),s17=.int .i64 q∧q≤m∧i≤q∧q-i≤ky∧dk.size=d.size∧Aside (SWK enc k w0 blk off dk wr2)∧Hid (downTo i ky q dk=downTo i (m-a) m d))
    case atStart=>exact⟨m,d,rfl,Nat.le_refl _,by omega,by omega,rfl,S1,rfl⟩
    case round=>
     clear S1;obtain⟨q,dk,rfl,haq,hqi,hky,hds,S1,HE⟩:=hrel;by_cases hq:i<q
     ·obtain⟨ky,rfl⟩:∃ky,gk=ky+1:=⟨gk-1,by omega⟩;have HE2:Hid (downTo i ky (q-1) (swp dk q (q-1))=downTo i (m-a) m d):=by
       show _=_;rw[←HE.out];show _=(if i<q then _ else dk);rw[if_pos hq]
      clear HE;have hz2:(i:Int)<(q:Int):=(by omega);go_wp2_with fail;have ea2:((q:Int)).toNat=q:=(by omega);have pa2:(0:Int)≤(q:Int):=(by omega);have ba2:(q:Int)<(d.size:Int):=(by omega);have ra2:IntKind.i64.wrap ((q:Int))=(q:Int):=(by rw[IntKind.wrap_i64];omega);have ec2:((q:Int)-1).toNat=q-1:=(by omega);have pc2:(0:Int)≤(q:Int)-1:=(by omega);have bc2:(q:Int)-1<(d.size:Int):=(by omega);have rc2:IntKind.i64.wrap ((q:Int)-1)=(q:Int)-1:=(by rw[IntKind.wrap_i64];omega);have S2:Aside (SWK enc k w0 blk off (swp dk (q) (q-1)) ((wr.drew.setCells blk (off+(q)*k) (enc dk[q-1]!)).setCells blk (off+(q-1)*k) (enc dk[q]!))):=S1.out.swapped RR.out (q) (q-1) (by omega) (by omega);have l2a:=S1.out.ld1 RR.out (by omega) P (q) (by omega);have l2b:=S1.out.ld1 RR.out (by omega) P (q-1) (by omega);have s2a:=S1.out.st1 RR.out (by omega) P (q) (by omega) dk[q-1]!;have s2b:=S1.out.st2 RR.out (by omega) P (q) (q-1) (by omega) (by omega) dk[q-1]! dk[q]!;have n2a:(enc dk[q]!).length=k:=RR.out.hk _;have n2b:(enc dk[q-1]!).length=k:=RR.out.hk _;generalize enc dk[q]! =cI2 at S2 l2a s2b n2a;generalize enc dk[q-1]! =cJ2 at S2 l2b s2a s2b n2b;clear S1;go_wp2_with fail;go_big_region_o;clear l2a l2b s2a s2b;generalize (wr.drew.setCells blk (off+(q)*k) cJ2).setCells blk (off+(q-1)*k) cI2=wu2 at S2⊢;go_wp2;go_roundg ky
      case measure=>omega
      case rel=>exact⟨q-1,swp dk q (q-1),by congr 1;omega,by omega,by omega,by omega,by rw[size_swp];exact hds,S2,HE2⟩
     ·have HE2:dk=downTo i (m-a) m d:=by
       rw[←HE.out];cases gk with
       |zero=>rfl
       |succ n=>show _=(if i<q then _ else dk);rw[if_neg hq]
      have HE3:Hid _:=HE2;clear HE HE2;have hz2:¬(i:Int)<(q:Int):=(by omega);go_wp2
      (try simp only [Exit.inBlock,Exit.then])
      refine bodyPost_ret (results_none rfl _ _ _) rfl ?_;exact⟨rfl,by rw[←HE3.out];exact S1.out⟩
end
section
variable {α:Type} [Inhabited α] {z:Bool} {P:Program} {k:Nat}
theorem zie (lt:α→α→Bool)(f a m b:Nat)(d:Array α)(h1:¬m-a=1)(h2:¬b-m=1):symM lt (f+1) a m b d=
 (if(a+b)/2<(a+b)/2+m-zzQ lt d a m b∧(a+b)/2+m-zzQ lt d a m b<b then
  symM lt f ((a+b)/2) ((a+b)/2+m-zzQ lt d a m b) b
   (if a<zzQ lt d a m b∧zzQ lt d a m b<(a+b)/2 then symM lt f a (zzQ lt d a m b) ((a+b)/2) (if zzQ lt d a m b<m∧m<(a+b)/2+m-zzQ lt d a m b then rot d (zzQ lt d a m b) m ((a+b)/2+m-zzQ lt d a m b)else d)
    else(if zzQ lt d a m b<m∧m<(a+b)/2+m-zzQ lt d a m b then rot d (zzQ lt d a m b) m ((a+b)/2+m-zzQ lt d a m b)else d))
  else
   (if a<zzQ lt d a m b∧zzQ lt d a m b<(a+b)/2 then symM lt f a (zzQ lt d a m b) ((a+b)/2) (if zzQ lt d a m b<m∧m<(a+b)/2+m-zzQ lt d a m b then rot d (zzQ lt d a m b) m ((a+b)/2+m-zzQ lt d a m b)else d)
    else(if zzQ lt d a m b<m∧m<(a+b)/2+m-zzQ lt d a m b then rot d (zzQ lt d a m b) m ((a+b)/2+m-zzQ lt d a m b)else d))):=by
 conv=>lhs;unfold symM
 rw[if_neg h1,if_neg h2]
theorem zaC (L:StyZ z P k) (enc:α→List Value) (cf:α→α→Int) (g:Nat) (cb:Array Value) (blk off cap f:Nat) (d0:Array α) (w0:World)
 (eg:∀args w,(callFunc g args).run P w=.ok (.enter g args) w) (hcmp:CmpLays P g cb enc k cf blk off d0.size w0)
 (R:RowK enc k w0 blk off d0) (hsz:d0.size<4611686018427387904)
 (ih:∀(a m b:Nat) (d:Array α) (w:World),b-a≤f→d0.size=d.size→SWK enc k w0 blk off d w→a<m→m<b→b≤d.size→Calls P (zsym z) #[.slice (some ⟨blk,off,none⟩) d0.size cap,.int .i64 a,.int .i64 m,.int .i64 b,.func (.func g) #[] cb] w fun e w'=>e=.returned (.tuple #[])∧SWK enc k w0 blk off (symM (ltOf cf) f a m b d) w')
 (a m b:Nat) (d:Array α) (w:World) (hf:b-a≤f+1) (hs:d0.size=d.size) (S:SWK enc k w0 blk off d w) (ham:a<m) (hmb:m<b) (hb:b≤d.size) (h1:¬m-a=1) (h2:¬b-m=1):
 Calls P (zsym z) #[.slice (some ⟨blk,off,none⟩) d0.size cap,.int .i64 a,.int .i64 m,.int .i64 b,.func (.func g) #[] cb] w fun e w'=>e=.returned (.tuple #[])∧SWK enc k w0 blk off (symM (ltOf cf) (f+1) a m b d) w':=by
 have LL:Aside (StyZ _ P k):=L;obtain⟨mixed,t0,a0,z0,v0,t3,a3,z3,v3,t4,a4,z4,v4,tU,aU,zU,vU,tS,aS,zS,vS,tF,aF,zF,vF,aE,zE,fsw,frot,fsym,fst,esw,erot,esym,eins⟩:=L;clear fsw frot fst esw eins;rw[zie (ltOf cf) f a m b d h1 h2];have hsd:d.size<4611686018427387904:=by omega
 obtain⟨mid,hmid⟩:∃mid,mid=(a+b)/2:=⟨_,rfl⟩;have hmb2:a<mid∧mid<b:=by omega
 obtain⟨H,hH⟩:∃H,H=zzQ (ltOf cf) d a m b:=⟨_,rfl⟩;rw[←hH,←hmid];have hH2:H=half (fun c=>!ltOf cf d[mid+m-1-c]! d[c]!) (b-a+1) (if mid<m then mid+m-b else a) (if mid<m then mid else m):=by rw[hH,hmid];rfl
 obtain⟨lo,hlo⟩:∃lo,lo=(if mid<m then mid+m-b else a):=⟨_,rfl⟩;obtain⟨hi,hhi⟩:∃hi,hi=(if mid<m then mid else m):=⟨_,rfl⟩;rw[←hlo,←hhi]at hH2;have hlh:a≤lo∧lo≤hi∧hi≤m∧hi≤mid∧mid+m-hi≤b∧mid+m-lo≤b∧hi-lo+1≤b-a+1:=by
  by_cases hc:mid<m
  ·rw[if_pos hc]at hlo hhi;omega
  ·rw[if_neg hc]at hlo hhi;omega
 have hHle:=zw6 (fun c=>!ltOf cf d[mid+m-1-c]! d[c]!) (b-a+1) lo hi hlh.2.1;rw[←hH2]at hHle;have HH:Hid (H=half (fun c=>!ltOf cf d[mid+m-1-c]! d[c]!) (b-a+1) lo hi):=hH2;have HLH:Hid ((mid<m→lo=mid+m-b∧hi=mid)∧(¬mid<m→lo=a∧hi=m)):=⟨fun h=>by rw[hlo,hhi,if_pos h,if_pos h];exact⟨rfl,rfl⟩,fun h=>by rw[hlo,hhi,if_neg h,if_neg h];exact⟨rfl,rfl⟩⟩;have hmdiv:((a:Int)+(b:Int))/2=(mid:Int):=by omega
 clear hH hH2 hlo hhi hmid;have HC:Aside _:=hcmp;clear hcmp;have IH:Aside _:=ih;clear ih;have S0:Aside (SWK enc k w0 blk off d w):=S;clear S;have RR:Aside (RowK enc k w0 blk off d0):=R;clear R;have hw1:IntKind.i64.wrap ((m:Int)-(a:Int))=(m:Int)-(a:Int):=by rw[IntKind.wrap_i64];omega
 have hq1:(((m:Int)-(a:Int))==1)=false:=by simp;omega
 have hw2:IntKind.i64.wrap ((b:Int)-(m:Int))=(b:Int)-(m:Int):=by rw[IntKind.wrap_i64];omega
 have hq2:(((b:Int)-(m:Int))==1)=false:=by simp;omega
 have hw3:IntKind.i64.wrap ((a:Int)+(b:Int))=(a:Int)+(b:Int):=by rw[IntKind.wrap_i64];omega
 have hw4:IntKind.u64.wrap ((a:Int)+(b:Int))=(a:Int)+(b:Int):=by rw[IntKind.wrap_u64];omega
 have hw5:IntKind.i64.wrap (mid:Int)=(mid:Int):=by rw[IntKind.wrap_i64];omega
 have hw6:IntKind.u64.wrap (mid:Int)=(mid:Int):=by rw[IntKind.wrap_u64];omega
 have hw7:IntKind.i64.wrap ((mid:Int)+(m:Int))=(mid:Int)+(m:Int):=by rw[IntKind.wrap_i64];omega
 have hw8:IntKind.i64.wrap ((mid:Int)+(m:Int)-1)=(mid:Int)+(m:Int)-1:=by rw[IntKind.wrap_i64];omega
 have hw9:IntKind.i64.wrap ((mid:Int)+(m:Int)-(b:Int))=(mid:Int)+(m:Int)-(b:Int):=by rw[IntKind.wrap_i64];omega
 have hs':d.size=d0.size:=hs.symm;clear hs hsd;obtain⟨RES,hRES⟩:∃RES,RES=(if mid<mid+m-H∧mid+m-H<b then
  symM (ltOf cf) f mid (mid+m-H) b (if a<H∧H<mid then symM (ltOf cf) f a H mid (if H<m∧m<mid+m-H then rot d H m (mid+m-H)else d)else(if H<m∧m<mid+m-H then rot d H m (mid+m-H)else d))
  else(if a<H∧H<mid then symM (ltOf cf) f a H mid (if H<m∧m<mid+m-H then rot d H m (mid+m-H)else d)else(if H<m∧m<mid+m-H then rot d H m (mid+m-H)else d))):=⟨_,rfl⟩
 rw[←hRES];have HR:Hid _:=hRES;clear hRES;cases z
 all_goals simp only [ztS,ztF,ztE,zrot,zsym,bsym]at tS aS zS vS tF aF zF vF aE zE fsym erot esym⊢
 go_enter fsym,Tryz.ntmps172
 rotate_left
 go_enter fsym,Tryz.ntmps152
 all_goals
  go_upto_if 140 with fail;go_cut [20,21,140]from 300 (fun s20 s21 _ wc=>s20=.int .i64 lo∧s21=.int .i64 hi∧wc=w)
  case first=>
   by_cases hc:mid<m
   ·have hcz:(mid:Int)<(m:Int):=(by omega);obtain⟨hl1,hl2⟩:=HLH.out.1 hc;have hl3:(mid:Int)+(m:Int)-(b:Int)=(lo:Int):=(by omega);have HL:Hid (lo=mid+m-b∧hi=mid):=⟨hl1,hl2⟩;clear HLH hl1 hl2;go_wp2;go_meet
    case rel=>exact⟨by first|rfl|rw[hl3],by rw[HL.out.2],rfl⟩
   ·have hcz:¬(mid:Int)<(m:Int):=(by omega);have HL:Hid (lo=a∧hi=m):=HLH.out.2 hc;clear HLH;go_wp2;go_meet
    case rel=>exact⟨by rw[HL.out.1],by rw[HL.out.2],rfl⟩
  case rest=>
   clear HLH;obtain⟨rfl,rfl,rfl⟩:=hcut;go_wp2;go_loopg [20,21] (b-a+1) (fun kx s10 s11 wr=>∃(i j:Nat),s10=.int .i64 i∧s11=.int .i64 j∧lo≤i∧i≤j∧j≤hi∧j-i+1≤kx∧Aside (SWK enc k w0 blk off d wr)∧Hid (half (fun h=>!ltOf cf d[mid+m-1-h]! d[h]!) kx i j=H))
   case atStart=>exact⟨lo,hi,by go_num,by go_num,Nat.le_refl _,by omega,Nat.le_refl _,by omega,S0,HH.out.symm⟩
   case round=>
    clear S0 HH;obtain⟨i,j,rfl,rfl,hai,hij,hjb,hkx,S1,HE⟩:=hrel;obtain⟨kx,rfl⟩:∃kx,gk=kx+1:=⟨gk-1,by omega⟩;by_cases hlt:i<j
    ·have hz:(i:Int)<(j:Int):=(by omega);obtain⟨h,hh⟩:∃h:Nat,h=(i+j)/2:=⟨_,rfl⟩;have HE2:Hid ((if !ltOf cf d[mid+m-1-h]! d[h]! then half (fun h=>!ltOf cf d[mid+m-1-h]! d[h]!) kx (h+1) j else half (fun h=>!ltOf cf d[mid+m-1-h]! d[h]!) kx i h)=H):=by
      show _=_;rw[←HE.out,hh];show _=(if i<j then(if !ltOf cf d[mid+m-1-((i+j)/2)]! d[((i+j)/2)]! then half (fun h=>!ltOf cf d[mid+m-1-h]! d[h]!) kx ((i+j)/2+1) j else half (fun h=>!ltOf cf d[mid+m-1-h]! d[h]!) kx i ((i+j)/2))else i);rw[if_pos hlt]
     clear HE;have hdiv:((i:Int)+(j:Int))/2=(h:Int):=(by omega);have hb1:i≤h∧h<j:=(by omega);have hwa:IntKind.i64.wrap ((i:Int)+(j:Int))=(i:Int)+(j:Int):=(by rw[IntKind.wrap_i64];omega);have hwu:IntKind.u64.wrap ((i:Int)+(j:Int))=(i:Int)+(j:Int):=(by rw[IntKind.wrap_u64];omega);have hwh:IntKind.i64.wrap (h:Int)=(h:Int):=(by rw[IntKind.wrap_i64];omega);have hwv:IntKind.u64.wrap (h:Int)=(h:Int):=(by rw[IntKind.wrap_u64];omega);clear hh;obtain⟨t,ht⟩:∃t:Nat,t=mid+m-1-h:=⟨_,rfl⟩;have htz:(mid:Int)+(m:Int)-1-(h:Int)=(t:Int):=(by omega);have htb:t<b:=(by omega);have HT:Hid (t=mid+m-1-h):=ht;clear ht;cases hlv:ltOf cf d[t]! d[h]! with
     |true=>
       have HE3:Hid (half (fun h=>!ltOf cf d[mid+m-1-h]! d[h]!) kx i h=H):=by
        have:=HE2.out;rw[←HT.out,hlv]at this;exact this
       clear HE2;have ea1:((t:Int)).toNat=t:=(by omega);have pa1:(0:Int)≤(t:Int):=(by omega);have ba1:(t:Int)<(d0.size:Int):=(by omega);have ra1:IntKind.i64.wrap ((t:Int))=(t:Int):=(by rw[IntKind.wrap_i64];omega);have ec1:((h:Int)).toNat=h:=(by omega);have pc1:(0:Int)≤(h:Int):=(by omega);have bc1:(h:Int)<(d0.size:Int):=(by omega);have rc1:IntKind.i64.wrap ((h:Int))=(h:Int):=(by rw[IntKind.wrap_i64];omega);obtain⟨x1,hx1⟩:∃x,x=d[t]!:=⟨_,rfl⟩;obtain⟨y1,hy1⟩:∃x,x=d[h]!:=⟨_,rfl⟩;have la1:=S1.out.ld RR.out (by omega) P (t) (by omega);have lb1:=S1.out.ld RR.out (by omega) P (h) (by omega);rw[←hx1]at la1;rw[←hy1]at lb1;have hc1:=S1.out.cmp HC.out (by omega) x1 y1;have hv1:cf x1 y1<0:=(by rw[hx1,hy1];exact of_decide_eq_true hlv);have hd1:decide (cf x1 y1<0)=true:=decide_eq_true hv1;clear hx1 hy1;go_wp2_with fail;go_quiet_grown (first|(go_at_fn g;refine Calls.grown_of (hc1 _ _)));have S2:Aside (SWK enc k w0 blk off d (grow (wr.drewN nq) osq)):=S1.out.grown nq osq;clear la1 lb1 hc1 S1 ea1 pa1 ba1 ra1 ec1 pc1 bc1 rc1;generalize grow (wr.drewN nq) osq=wu1 at S2⊢;clear nq osq;go_wp2;go_roundg kx
       case measure=>omega
       case rel=>exact⟨i,h,by go_num,by go_num,by omega,by omega,by omega,by omega,S2,HE3⟩
     |false=>
       have HE3:Hid (half (fun h=>!ltOf cf d[mid+m-1-h]! d[h]!) kx (h+1) j=H):=by
        have:=HE2.out;rw[←HT.out,hlv]at this;exact this
       clear HE2;have ea1:((t:Int)).toNat=t:=(by omega);have pa1:(0:Int)≤(t:Int):=(by omega);have ba1:(t:Int)<(d0.size:Int):=(by omega);have ra1:IntKind.i64.wrap ((t:Int))=(t:Int):=(by rw[IntKind.wrap_i64];omega);have ec1:((h:Int)).toNat=h:=(by omega);have pc1:(0:Int)≤(h:Int):=(by omega);have bc1:(h:Int)<(d0.size:Int):=(by omega);have rc1:IntKind.i64.wrap ((h:Int))=(h:Int):=(by rw[IntKind.wrap_i64];omega);obtain⟨x1,hx1⟩:∃x,x=d[t]!:=⟨_,rfl⟩;obtain⟨y1,hy1⟩:∃x,x=d[h]!:=⟨_,rfl⟩;have la1:=S1.out.ld RR.out (by omega) P (t) (by omega);have lb1:=S1.out.ld RR.out (by omega) P (h) (by omega);rw[←hx1]at la1;rw[←hy1]at lb1;have hc1:=S1.out.cmp HC.out (by omega) x1 y1;have hv1:¬cf x1 y1<0:=(by rw[hx1,hy1];exact of_decide_eq_false hlv);have hd1:decide (cf x1 y1<0)=false:=decide_eq_false hv1;clear hx1 hy1;go_wp2_with fail;go_quiet_grown (first|(go_at_fn g;refine Calls.grown_of (hc1 _ _)));have S2:Aside (SWK enc k w0 blk off d (grow (wr.drewN nq) osq)):=S1.out.grown nq osq;clear la1 lb1 hc1 S1 ea1 pa1 ba1 ra1 ec1 pc1 bc1 rc1;generalize grow (wr.drewN nq) osq=wu1 at S2⊢;clear nq osq;go_wp2;go_roundg kx
       case measure=>omega
       case rel=>exact⟨h+1,j,by go_num,by go_num,by omega,by omega,by omega,by omega,S2,HE3⟩
    ·have hz:¬(i:Int)<(j:Int):=(by omega);obtain rfl:i=H:=by
      rw[←HE.out];show _=(if i<j then _ else i);rw[if_neg hlt]
     clear HE;clear hij hjb hkx;obtain⟨e,he⟩:∃e:Nat,e=mid+m-i:=⟨_,rfl⟩;have hez:(mid:Int)+(m:Int)-(i:Int)=(e:Int):=(by omega);have hwe:IntKind.i64.wrap (e:Int)=(e:Int):=(by rw[IntKind.wrap_i64];omega);have heb:mid≤e∧e≤b:=(by omega);have HE0:Hid (e=mid+m-i):=he;clear he;obtain⟨bq,hbq⟩:∃bq:Bool,bq=decide (i<m∧m<e):=⟨_,rfl⟩;have HB:Hid (bq=decide (i<m∧m<e)):=hbq;clear hbq;go_upto_region 39 with fail;go_cut [185]from 300 (fun s wc=>s=.bool bq∧Aside (SWK enc k w0 blk off d wc))
     case first=>
      by_cases q1:i<m
      ·have q1z:(i:Int)<(m:Int):=(by omega);by_cases q2:m<e
       ·have q2z:(m:Int)<(e:Int):=(by omega);have hQ:Hid (bq=true):=(by show _=_;rw[HB.out];exact decide_eq_true ⟨q1,q2⟩);go_wp2;go_meet
        case rel=>exact⟨by rw[hQ.out],S1⟩
       ·have q2z:¬(m:Int)<(e:Int):=(by omega);have hQ:Hid (bq=false):=(by show _=_;rw[HB.out];exact decide_eq_false (fun h=>q2 h.2));go_wp2;go_meet
        case rel=>exact⟨by rw[hQ.out],S1⟩
      ·have q1z:¬(i:Int)<(m:Int):=(by omega);have hQ:Hid (bq=false):=(by show _=_;rw[HB.out];exact decide_eq_false (fun h=>q1 h.1));go_wp2;go_meet
       case rel=>exact⟨by rw[hQ.out],S1⟩
     case rest=>
      clear S1;obtain⟨rfl,S1⟩:=hcut;obtain⟨d1,hd1⟩:∃d1,d1=(if i<m∧m<e then rot d i m e else d):=⟨_,rfl⟩;have hs1:d1.size=d0.size:=by rw[hd1];split<;>first|exact(zdT _ _ _ _).trans hs'|exact hs'
      have HD1:Hid (d1=(if i<m∧m<e then rot d i m e else d)):=hd1;clear hd1;go_upto_if 185 with fail;go_cut [185]from 300 (fun _ wx=>Aside (SWK enc k w0 blk off d1 wx))
      case first=>
       by_cases q:i<m∧m<e
       ·have hc:=zTp LL.out enc g cb blk off cap i m e d0 d w0 wc RR.out hs'.symm S1.out q.1 q.2 (by omega) (by omega);rw[hs']at hc;have hE:Hid (d1=rot d i m e):=(by show _=_;rw[HD1.out,if_pos q]);obtain rfl:bq=true:=(by rw[HB.out];exact decide_eq_true q);clear S1 HB;go_wp2_with ((first|go_at_fn 189|go_at_fn 174);refine hc.mono ?_;rintro e1 w1 ⟨rfl,S3⟩);go_meet
        case rel=>exact(by rw[hE.out];exact S3)
       ·have hE:Hid (d1=d):=(by show _=_;rw[HD1.out,if_neg q]);obtain rfl:bq=false:=(by rw[HB.out];exact decide_eq_false q);go_wp2;go_meet
        case rel=>exact(by rw[hE.out];exact S1)
      case rest=>
       clear S1 HB;have S1:=hcut;clear hcut;obtain⟨bq,hbq⟩:∃bq:Bool,bq=decide (a<i∧i<mid):=⟨_,rfl⟩;have HB:Hid (bq=decide (a<i∧i<mid)):=hbq;clear hbq;go_upto_region 41 with fail;go_cut [199]from 300 (fun s wc=>s=.bool bq∧Aside (SWK enc k w0 blk off d1 wc))
       case first=>
        by_cases q1:a<i
        ·have q1z:(a:Int)<(i:Int):=(by omega);by_cases q2:i<mid
         ·have q2z:(i:Int)<(mid:Int):=(by omega);have hQ:Hid (bq=true):=(by show _=_;rw[HB.out];exact decide_eq_true ⟨q1,q2⟩);go_wp2;go_meet
          case rel=>exact⟨by rw[hQ.out],S1⟩
         ·have q2z:¬(i:Int)<(mid:Int):=(by omega);have hQ:Hid (bq=false):=(by show _=_;rw[HB.out];exact decide_eq_false (fun h=>q2 h.2));go_wp2;go_meet
          case rel=>exact⟨by rw[hQ.out],S1⟩
        ·have q1z:¬(a:Int)<(i:Int):=(by omega);have hQ:Hid (bq=false):=(by show _=_;rw[HB.out];exact decide_eq_false (fun h=>q1 h.1));go_wp2;go_meet
         case rel=>exact⟨by rw[hQ.out],S1⟩
       case rest=>
        clear S1;obtain⟨rfl,S1⟩:=hcut;obtain⟨d2,hd2⟩:∃d2,d2=(if a<i∧i<mid then symM (ltOf cf) f a i mid d1 else d1):=⟨_,rfl⟩;have hs2:d2.size=d0.size:=by rw[hd2];split<;>first|exact(zJ2 _ _ _ _ _ _).trans hs1|exact hs1
        have HD2:Hid (d2=(if a<i∧i<mid then symM (ltOf cf) f a i mid d1 else d1)):=hd2;clear hd2;go_upto_if 199 with fail;go_cut [199]from 300 (fun _ wx=>Aside (SWK enc k w0 blk off d2 wx))
        case first=>
         by_cases q:a<i∧i<mid
         ·have hc:=IH.out a i mid d1 wc (by omega) (by omega) S1.out q.1 q.2 (by omega);have hE:Hid (d2=symM (ltOf cf) f a i mid d1):=(by show _=_;rw[HD2.out,if_pos q]);obtain rfl:bq=true:=(by rw[HB.out];exact decide_eq_true q);clear S1 HB;go_wp2_with ((first|go_at_fn 172|go_at_fn 152);refine hc.mono ?_;rintro e1 w1 ⟨rfl,S3⟩);go_meet
          case rel=>exact(by rw[hE.out];exact S3)
         ·have hE:Hid (d2=d1):=(by show _=_;rw[HD2.out,if_neg q]);obtain rfl:bq=false:=(by rw[HB.out];exact decide_eq_false q);go_wp2;go_meet
          case rel=>exact(by rw[hE.out];exact S1)
        case rest=>
         clear S1 HB;have S1:=hcut;clear hcut;obtain⟨bq,hbq⟩:∃bq:Bool,bq=decide (mid<e∧e<b):=⟨_,rfl⟩;have HB:Hid (bq=decide (mid<e∧e<b)):=hbq;clear hbq;go_upto_region 43 with fail;go_cut [213]from 300 (fun s wc=>s=.bool bq∧Aside (SWK enc k w0 blk off d2 wc))
         case first=>
          by_cases q1:mid<e
          ·have q1z:(mid:Int)<(e:Int):=(by omega);by_cases q2:e<b
           ·have q2z:(e:Int)<(b:Int):=(by omega);have hQ:Hid (bq=true):=(by show _=_;rw[HB.out];exact decide_eq_true ⟨q1,q2⟩);go_wp2;go_meet
            case rel=>exact⟨by rw[hQ.out],S1⟩
           ·have q2z:¬(e:Int)<(b:Int):=(by omega);have hQ:Hid (bq=false):=(by show _=_;rw[HB.out];exact decide_eq_false (fun h=>q2 h.2));go_wp2;go_meet
            case rel=>exact⟨by rw[hQ.out],S1⟩
          ·have q1z:¬(mid:Int)<(e:Int):=(by omega);have hQ:Hid (bq=false):=(by show _=_;rw[HB.out];exact decide_eq_false (fun h=>q1 h.1));go_wp2;go_meet
           case rel=>exact⟨by rw[hQ.out],S1⟩
         case rest=>
          clear S1;obtain⟨rfl,S1⟩:=hcut;by_cases q:mid<e∧e<b
          ·have hc:=IH.out mid e b d2 wc (by omega) (by omega) S1.out q.1 q.2 (by omega);obtain rfl:bq=true:=(by rw[HB.out];exact decide_eq_true q);clear S1 HB;go_wp2_with ((first|go_at_fn 172|go_at_fn 152);refine hc.mono ?_;rintro e1 w1 ⟨rfl,S3⟩);go_end0;exact⟨rfl,by rw[HR.out,←HE0.out,←HD1.out,←HD2.out,if_pos q];exact S3⟩
          ·obtain rfl:bq=false:=(by rw[HB.out];exact decide_eq_false q);go_wp2;go_end0;exact⟨rfl,by rw[HR.out,←HE0.out,←HD1.out,←HD2.out,if_neg q];exact S1.out⟩
theorem zEc (L:StyZ z P k) (enc:α→List Value) (cf:α→α→Int) (g:Nat) (cb:Array Value) (blk off cap:Nat) (d0:Array α) (w0:World)
 (eg:∀args w,(callFunc g args).run P w=.ok (.enter g args) w) (hcmp:CmpLays P g cb enc k cf blk off d0.size w0)
 (R:RowK enc k w0 blk off d0) (hsz:d0.size<4611686018427387904) (f:Nat):∀(a m b:Nat) (d:Array α) (w:World),b-a≤f→d0.size=d.size→SWK enc k w0 blk off d w→a<m→m<b→b≤d.size→Calls P (zsym z) #[.slice (some ⟨blk,off,none⟩) d0.size cap,.int .i64 a,.int .i64 m,.int .i64 b,.func (.func g) #[] cb] w fun e w'=>e=.returned (.tuple #[])∧SWK enc k w0 blk off (symM (ltOf cf) f a m b d) w':=by
 induction f with
 |zero=>intro a m b d w hf hs S ham hmb;omega
 |succ f ih=>
   intro a m b d w hf hs S ham hmb hb;by_cases h1:m-a=1
   ·have h:=z6J L enc cf g cb blk off cap a m b d0 d w0 w eg hcmp R hs S h1 hmb hb (by omega);rw[←hs]at h;have e:symM (ltOf cf) (f+1) a m b d=upTo (half (fun h=>ltOf cf d[h]! d[a]!) (b-m+1) m b-1) (b-a) a d:=by
     conv=>lhs;unfold symM
     rw[if_pos h1]
    rw[e];exact h
   ·by_cases h2:b-m=1
    ·have h:=zow L enc cf g cb blk off cap a m b d0 d w0 w eg hcmp R hs S h1 ham h2 hb (by omega);rw[←hs]at h;have e:symM (ltOf cf) (f+1) a m b d=downTo (half (fun h=>!ltOf cf d[m]! d[h]!) (m-a+1) a m) (m-a) m d:=by
      conv=>lhs;unfold symM
      rw[if_neg h1,if_pos h2]
     rw[e];exact h
    ·exact zaC L enc cf g cb blk off cap f d0 w0 eg hcmp R hsz ih a m b d w hf hs S ham hmb hb h1 h2
end
section
variable {α:Type} [Inhabited α] {z:Bool} {P:Program} {k:Nat}
theorem zzz (L:StyZ z P k) (enc:α→List Value) (cf:α→α→Int) (g:Nat) (cb:Array Value) (blk off cap:Nat) (d0 d:Array α) (w0 w:World)
 (eg:∀args w,(callFunc g args).run P w=.ok (.enter g args) w) (hcmp:CmpLays P g cb enc k cf blk off d0.size w0)
 (hins:∀(a b:Nat) (d:Array α) (w:World),d0.size=d.size→SWK enc k w0 blk off d w→a≤b→b≤d.size→Calls P (zins z) #[.slice (some ⟨blk,off,none⟩) d0.size cap,.int .i64 a,.int .i64 b,.func (.func g) #[] cb] w fun e w'=>e=.returned (.tuple #[])∧SWK enc k w0 blk off (Sort.insertionSort (ltOf cf) d a b) w')
 (R:RowK enc k w0 blk off d0) (hs:d.size=d0.size) (S:SWK enc k w0 blk off d w) (hsz:d0.size≤1000000):
 Calls P (zst z) #[.slice (some ⟨blk,off,none⟩) d0.size cap,.int .i64 d0.size,.func (.func g) #[] cb] w fun e w'=>e=.returned (.tuple #[])∧SWK enc k w0 blk off (zjN (ltOf cf) d) w':=by
 have SYM:Aside _:=zEc L enc cf g cb blk off cap d0 w0 eg hcmp R (by omega);obtain⟨mixed,t0,a0,z0,v0,t3,a3,z3,v3,t4,a4,z4,v4,tU,aU,zU,vU,tS,aS,zS,vS,tF,aF,zF,vF,aE,zE,fsw,frot,fsym,fst,esw,erot,esym,eins⟩:=L;clear fsw frot fsym esw erot;have INS:Aside _:=hins;have S0:Aside (SWK enc k w0 blk off d w):=S;clear S hins hcmp R eg;obtain⟨B,hB⟩:∃B,B=zSe (ltOf cf) (d0.size+1) 0 d0.size d:=⟨_,rfl⟩;obtain⟨RES,hRES⟩:∃RES,RES=z2U (ltOf cf) (d0.size+1) 20 d0.size (Sort.insertionSort (ltOf cf) B.2 B.1 d0.size):=⟨_,rfl⟩;have e0:zjN (ltOf cf) d=RES:=by
  rw[hRES,hB];unfold zjN;rw[hs]
 rw[e0];have HB:Hid _:=hB;have HR:Hid _:=hRES;have HS:Hid (d.size=d0.size):=hs;clear hB hRES e0 hs;obtain⟨N,hN⟩:∃N,N=d0.size:=⟨_,rfl⟩;rw[←hN]at SYM INS HB HR HS hsz⊢;clear hN;cases z
 all_goals simp only [ztS,ztF,ztE,zsym,zins,zst,bst]at tS aS zS vS tF aF zF vF aE zE fst esym eins⊢
 go_enter fst,Tryz.ntmps149
 rotate_left
 go_enter fst,Tryz.ntmps127
 all_goals
  go_wp2;go_loopg [7,8] (N+1) (fun kx s7 s8 wr=>∃(a:Nat) (dk:Array α),s7=.int .i64 a∧s8=.int .i64 ((a:Int)+20)∧a≤N∧N+1≤kx+a∧Aside (dk.size=N)∧Aside (SWK enc k w0 blk off dk wr)∧Hid (zSe (ltOf cf) kx a N dk=B))
  case atStart=>exact⟨0,d,rfl,rfl,by omega,by omega,HS,S0,HB.out.symm⟩
  case round=>
   clear S0 HB HS;obtain⟨a,dk,rfl,rfl,haN,hkx,hds,S1,HE⟩:=hrel;obtain⟨kx,rfl⟩:∃kx,gk=kx+1:=⟨gk-1,by omega⟩;by_cases hlt:a+20≤N
   ·have hz:(a:Int)+20≤(N:Int):=(by omega);have HE2:Hid (zSe (ltOf cf) kx (a+20) N (Sort.insertionSort (ltOf cf) dk a (a+20))=B):=by
     show _=_;rw[←HE.out];show _=(if a+20≤N then _ else _);rw[if_pos hlt]
    clear HE;have hw1:IntKind.i64.wrap ((a:Int)+20+20)=(a:Int)+20+20:=(by rw[IntKind.wrap_i64];omega);have hc:=INS.out a (a+20) dk wr (by have:=hds.out;omega) S1.out (by omega) (by have:=hds.out;omega);rw[show((a+20:Nat):Int)=(a:Int)+20 by omega]at hc;have hds2:Aside ((Sort.insertionSort (ltOf cf) dk a (a+20)).size=N):=(zpf _ _ _ _).trans hds.out;clear S1 hds;go_wp2_with ((first|go_at_fn 171|go_at_fn 151);refine hc.mono ?_;rintro e1 w1 ⟨rfl,S3⟩);go_roundg kx
    case measure=>omega
    case rel=>exact⟨a+20,Sort.insertionSort (ltOf cf) dk a (a+20),by go_num,by first|rfl|go_num|(congr 1;omega),by omega,by omega,hds2,S3,HE2⟩
   ·have hz:¬(a:Int)+20≤(N:Int):=(by omega);obtain rfl:B=(a,dk):=by
     rw[←HE.out];show(if a+20≤N then _ else(a,dk))=_;rw[if_neg hlt]
    clear HE;have hc:=INS.out a N dk wr (by have:=hds.out;omega) S1.out haN (by have:=hds.out;omega);have hds2:Aside ((Sort.insertionSort (ltOf cf) dk a N).size=N):=(zpf _ _ _ _).trans hds.out;have HR2:Hid (RES=z2U (ltOf cf) (N+1) 20 N (Sort.insertionSort (ltOf cf) dk a N)):=HR.out;clear S1 hds HR;generalize Sort.insertionSort (ltOf cf) dk a N=d1 at hc hds2 HR2;clear hlt haN hkx;go_wp2_with ((first|go_at_fn 171|go_at_fn 151);refine hc.mono ?_;rintro e1 w1 ⟨rfl,S3⟩);have S0:Aside (SWK enc k w0 blk off d1 w1):=S3;clear S3 hc;clear hz;go_wp2;go_loopg [6] (N+1) (fun kx s6 wr=>∃(bs:Nat) (dk:Array α),s6=.int .i64 bs∧20≤bs∧bs≤4000000∧N<kx+bs∧Aside (dk.size=N)∧Aside (SWK enc k w0 blk off dk wr)∧Hid (RES=z2U (ltOf cf) kx bs N dk))
    case atStart=>exact⟨20,d1,rfl,Nat.le_refl _,by omega,by omega,hds2,S0,HR2⟩
    case round=>
     clear S0 hds2 HR2;obtain⟨bs,dk,rfl,hb20,hbsz,hkx,hds,S1,HR⟩:=hrel;by_cases hlt:bs<N
     ·have hz:(bs:Int)<(N:Int):=(by omega);obtain⟨kx,rfl⟩:∃kx,gk=kx+1:=⟨gk-1,by omega⟩;obtain⟨M,hM⟩:∃M,M=zHU (ltOf cf) bs (N+1) 0 N dk:=⟨_,rfl⟩;have HM:Hid (M=zHU (ltOf cf) bs (N+1) 0 N dk):=hM;obtain⟨D,hD⟩:∃D,D=(if M.1+bs<N then symM (ltOf cf) (2*bs+1) M.1 (M.1+bs) N M.2 else M.2):=⟨_,rfl⟩;have HD:Hid (D=(if M.1+bs<N then symM (ltOf cf) (2*bs+1) M.1 (M.1+bs) N M.2 else M.2)):=hD;have HR2:Hid (RES=z2U (ltOf cf) kx (bs*2) N D):=by
       show _=_;rw[HR.out];show(if bs<N then z2U (ltOf cf) kx (bs*2) N (z8r (ltOf cf) bs N dk)else dk)=_;rw[if_pos hlt,hD,hM];rfl
      clear HR hM hD;have hw1:IntKind.i64.wrap (2*(bs:Int))=2*(bs:Int):=(by rw[IntKind.wrap_i64];omega);have hw2:IntKind.i64.wrap ((bs:Int)*2)=(bs:Int)*2:=(by rw[IntKind.wrap_i64];omega);go_wp2;go_loopg [7,8] (N+1) (fun ky s7 s8 wr2=>∃(a:Nat) (dj:Array α),s7=.int .i64 a∧s8=.int .i64 ((a:Int)+2*(bs:Int))∧a≤N∧N+1≤ky+a∧Aside (dj.size=N)∧Aside (SWK enc k w0 blk off dj wr2)∧Hid (zHU (ltOf cf) bs ky a N dj=M))
      case atStart=>exact⟨0,dk,rfl,by first|rfl|(congr 1;omega),by omega,by omega,hds,S1,HM.out.symm⟩
      case round=>
       clear S1 HM hds;obtain⟨a,dj,rfl,rfl,haN,hky,hds,S1,HE⟩:=hrel;obtain⟨ky,rfl⟩:∃ky,gk=ky+1:=⟨gk-1,by omega⟩;by_cases hlt2:a+2*bs≤N
       ·have hz2:(a:Int)+2*(bs:Int)≤(N:Int):=(by omega);have HE2:Hid (zHU (ltOf cf) bs ky (a+2*bs) N (symM (ltOf cf) (2*bs+1) a (a+bs) (a+2*bs) dj)=M):=by
         show _=_;rw[←HE.out];show _=(if a+2*bs≤N then _ else _);rw[if_pos hlt2]
        clear HE;have hw3:IntKind.i64.wrap ((a:Int)+2*(bs:Int)+2*(bs:Int))=(a:Int)+2*(bs:Int)+2*(bs:Int):=(by rw[IntKind.wrap_i64];omega);have hw4:IntKind.i64.wrap ((a:Int)+(bs:Int))=(a:Int)+(bs:Int):=(by rw[IntKind.wrap_i64];omega);have hc:=SYM.out (2*bs+1) a (a+bs) (a+2*bs) dj wr (by omega) hds.out.symm S1.out (by omega) (by omega) (by have:=hds.out;omega);rw[show((a+bs:Nat):Int)=(a:Int)+(bs:Int) by omega,show((a+2*bs:Nat):Int)=(a:Int)+2*(bs:Int) by omega]at hc;have hds2:Aside ((symM (ltOf cf) (2*bs+1) a (a+bs) (a+2*bs) dj).size=N):=(zJ2 _ _ _ _ _ _).trans hds.out;clear S1 hds;generalize symM (ltOf cf) (2*bs+1) a (a+bs) (a+2*bs) dj=dn at hc hds2 HE2;go_wp2_with ((first|go_at_fn 172|go_at_fn 152);refine hc.mono ?_;rintro e1 w1 ⟨rfl,S3⟩);go_roundg ky
        case measure=>omega
        case rel=>exact⟨a+2*bs,dn,by first|rfl|go_num|(congr 1;omega),by first|rfl|go_num|(congr 1;omega),by omega,by omega,hds2,S3,HE2⟩
       ·have hz2:¬(a:Int)+2*(bs:Int)≤(N:Int):=(by omega);obtain rfl:M=(a,dj):=by
         rw[←HE.out];show(if a+2*bs≤N then _ else(a,dj))=_;rw[if_neg hlt2]
        clear HE;have hw4:IntKind.i64.wrap ((a:Int)+(bs:Int))=(a:Int)+(bs:Int):=(by rw[IntKind.wrap_i64];omega);by_cases hq:a+bs<N
        ·have hqz:(a:Int)+(bs:Int)<(N:Int):=(by omega);have HD2:Hid (D=symM (ltOf cf) (2*bs+1) a (a+bs) N dj):=by
          show _=_;rw[HD.out];exact if_pos hq
         clear HD;have hc:=SYM.out (2*bs+1) a (a+bs) N dj wr (by omega) hds.out.symm S1.out (by omega) hq (by have:=hds.out;omega);rw[show((a+bs:Nat):Int)=(a:Int)+(bs:Int) by omega,←HD2.out]at hc;have hds2:Aside (D.size=N):=(by show _=_;rw[HD2.out];exact(zJ2 _ _ _ _ _ _).trans hds.out);clear S1 hds HD2;go_wp2_with ((first|go_at_fn 172|go_at_fn 152);refine hc.mono ?_;rintro e1 w1 ⟨rfl,S3⟩);go_roundg kx
         case measure=>omega
         case rel=>exact⟨bs*2,D,by first|rfl|go_num|(congr 1;omega),by omega,by omega,by omega,hds2,S3,HR2⟩
        ·have hqz:¬(a:Int)+(bs:Int)<(N:Int):=(by omega);have HD2:Hid (D=dj):=by
          show _=_;rw[HD.out];exact if_neg hq
         clear HD;have S3:Aside (SWK enc k w0 blk off D wr):=(by show SWK _ _ _ _ _ _ _;rw[HD2.out];exact S1.out);have hds2:Aside (D.size=N):=(by show _=_;rw[HD2.out];exact hds.out);clear S1 hds HD2;go_wp2;go_roundg kx
         case measure=>omega
         case rel=>exact⟨bs*2,D,by first|rfl|go_num|(congr 1;omega),by omega,by omega,by omega,hds2,S3,HR2⟩
     ·have hz:¬(bs:Int)<(N:Int):=(by omega);have HE:Hid (RES=dk):=by
       show _=_;rw[HR.out];cases gk with
       |zero=>rfl
       |succ n=>show(if bs<N then _ else dk)=dk;rw[if_neg hlt]
      clear HR;go_wp2;go_end0;exact⟨rfl,by rw[HE.out];exact S1.out⟩
end
end Go.Proofs.YtbbkihekjdffpaaGreatDoor.srch
