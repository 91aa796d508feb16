/- Several texts in one. -/
import Derived.Test.YtoeoinpaidhmcaaGreatDoorSrchPQ
import Derived.Deep.Cut
import Derived.Deep.LoopGhost
import Derived.Sort.WalkB12
import Derived.Sort.WalkB2
set_option maxHeartbeats 8000000
set_option maxRecDepth 1000000
namespace Go.Proofs.YtoeoinpaidhmcaaGreatDoor.srch
open Tryz
open Go.RowKit Go.Shelf
open Go.Sort (swp size_swp grow grow_grow grow_empty alloc_eq_grow size_grow)
def ztS (z:Bool):TypeId:=match z with|false=>30|true=>257
def ztF (z:Bool):TypeId:=match z with|false=>313|true=>263
def ztE (z:Bool):TypeId:=match z with|false=>27|true=>261
def zsw (z:Bool):FuncId:=match z with|false=>222|true=>214
def zrot (z:Bool):FuncId:=match z with|false=>213|true=>200
def zsym (z:Bool):FuncId:=match z with|false=>198|true=>181
def zst (z:Bool):FuncId:=match z with|false=>178|true=>163
def zins (z:Bool):FuncId:=match z with|false=>197|true=>180
noncomputable def bsw (z:Bool):Func:=match z with|false=>Tryz.f222|true=>Tryz.f214
noncomputable def brot (z:Bool):Func:=match z with|false=>Tryz.f213|true=>Tryz.f200
noncomputable def bsym (z:Bool):Func:=match z with|false=>Tryz.f198|true=>Tryz.f181
noncomputable def bst (z:Bool):Func:=match z with|false=>Tryz.f178|true=>Tryz.f163
structure StyZ (z:Bool)(P:Program)(k:Nat):Prop where
 mixed:P.follows .mixedOrders=true
 t0:P.underlying 0=some (TypeDesc.tuple #[])
 a0:∀w,(isAgg 0).run P w=.ok false w
 z0:∀w,(Go.sizeOf 0).run P w=.ok 1 w
 v0:∀w,(zeroValue 0).run P w=.ok (Value.tuple #[]) w
 t3:P.underlying 3=some (TypeDesc.int IntKind.i64)
 a3:∀w,(isAgg 3).run P w=.ok false w
 z3:∀w,(Go.sizeOf 3).run P w=.ok 1 w
 v3:∀w,(zeroValue 3).run P w=.ok (Value.int IntKind.i64 0) w
 t4:P.underlying 4=some (TypeDesc.bool)
 a4:∀w,(isAgg 4).run P w=.ok false w
 z4:∀w,(Go.sizeOf 4).run P w=.ok 1 w
 v4:∀w,(zeroValue 4).run P w=.ok (Value.bool false) w
 tU:P.underlying 223=some (TypeDesc.int IntKind.u64)
 aU:∀w,(isAgg 223).run P w=.ok false w
 zU:∀w,(Go.sizeOf 223).run P w=.ok 1 w
 vU:∀w,(zeroValue 223).run P w=.ok (Value.int IntKind.u64 0) w
 tS:P.underlying (ztS z)=some (TypeDesc.slice (ztE z))
 aS:∀w,(isAgg (ztS z)).run P w=.ok false w
 zS:∀w,(Go.sizeOf (ztS z)).run P w=.ok 1 w
 vS:∀w,(zeroValue (ztS z)).run P w=.ok (Value.slice none 0 0) w
 tF:P.underlying (ztF z)=some (TypeDesc.func #[(ztE z),(ztE z)] #[3] false)
 aF:∀w,(isAgg (ztF z)).run P w=.ok false w
 zF:∀w,(Go.sizeOf (ztF z)).run P w=.ok 1 w
 vF:∀w,(zeroValue (ztF z)).run P w=.ok Value.nilFunc w
 aE:∀w,(isAgg (ztE z)).run P w=.ok true w
 zE:∀w,(Go.sizeOf (ztE z)).run P w=.ok k w
 fsw:P.funcs[zsw z]?=some (bsw z)
 frot:P.funcs[zrot z]?=some (brot z)
 fsym:P.funcs[zsym z]?=some (bsym z)
 fst:P.funcs[zst z]?=some (bst z)
 esw:∀args w,(callFunc (zsw z) args).run P w=.ok (.enter (zsw z) args) w
 erot:∀args w,(callFunc (zrot z) args).run P w=.ok (.enter (zrot z) args) w
 esym:∀args w,(callFunc (zsym z) args).run P w=.ok (.enter (zsym z) args) w
 eins:∀args w,(callFunc (zins z) args).run P w=.ok (.enter (zins z) args) w
theorem styO:StyZ false prog 10:=
 ⟨by kernel_rfl,underlying0,Tryz.isAgg0,Tryz.sizeOf0,Tryz.zeroValue0,underlying3,Tryz.isAgg3,Tryz.sizeOf3,Tryz.zeroValue3,underlying4,Tryz.isAgg4,Tryz.sizeOf4,Tryz.zeroValue4,
  underlying223,Tryz.isAgg223,Tryz.sizeOf223,Tryz.zeroValue223,underlying30,Tryz.isAgg30,Tryz.sizeOf30,Tryz.zeroValue30,underlying313,Tryz.isAgg313,Tryz.sizeOf313,Tryz.zeroValue313,Tryz.isAgg27,Tryz.sizeOf27,
  func222,func213,func198,func178,
  enters_of func222 (by kernel_rfl) rfl,enters_of func213 (by kernel_rfl) rfl,enters_of func198 (by kernel_rfl) rfl,enters_of func197 (by kernel_rfl) rfl⟩
theorem styH:StyZ true prog 11:=
 ⟨by kernel_rfl,underlying0,Tryz.isAgg0,Tryz.sizeOf0,Tryz.zeroValue0,underlying3,Tryz.isAgg3,Tryz.sizeOf3,Tryz.zeroValue3,underlying4,Tryz.isAgg4,Tryz.sizeOf4,Tryz.zeroValue4,
  underlying223,Tryz.isAgg223,Tryz.sizeOf223,Tryz.zeroValue223,underlying257,Tryz.isAgg257,Tryz.sizeOf257,Tryz.zeroValue257,underlying263,Tryz.isAgg263,Tryz.sizeOf263,Tryz.zeroValue263,Tryz.isAgg261,Tryz.sizeOf261,
  func214,func200,func181,func163,
  enters_of func214 (by kernel_rfl) rfl,enters_of func200 (by kernel_rfl) rfl,enters_of func181 (by kernel_rfl) rfl,enters_of func180 (by kernel_rfl) rfl⟩
section
variable {α:Type} [Inhabited α] {z:Bool} {P:Program} {k:Nat}
theorem z9a (L:StyZ z P k) (enc:α→List Value) (g:Nat) (X:Array Value) (blk h C a b n:Nat) (D d:Array α) (m w:World)
 (R:RowK enc k m blk h D) (hs:D.size=d.size) (S:SWK enc k m blk h d w) (ha:a+n≤b) (hb:b+n≤d.size) (aa:d.size<4611686018427387904):
 Calls P (zsw z) #[.slice (some ⟨blk,h,none⟩) d.size C,.int .i64 a,.int .i64 b,.int .i64 n,.func (.func g) #[] X] w fun e w'=>e=.returned (.tuple #[])∧SWK enc k m blk h (zaR d a b n) w':=by
 obtain⟨J,t0,a0,z0,v0,t3,a3,z3,v3,t4,a4,z4,v4,tU,aU,zU,vU,tS,N,V,K,Q,U,O,Z,M,Y,o,s,u,B,A,v,t,r⟩:=L;clear s u B A v t r;have E:Aside (SWK enc k m blk h d w):=S;clear S;cases z
 all_goals simp only [ztS,ztF,ztE,zsw,bsw]at tS N V K Q U O Z M Y o⊢
 go_enter o,ntmps222
 rotate_left
 go_enter o,ntmps214
 all_goals
  go_wp2;go_loopg [10] n (fun kx s10 wr=>∃(i:Nat) (j:Array α),s10=.int .i64 i∧i+kx=n∧j.size=d.size∧Aside (SWK enc k m blk h j wr)∧Hid (swLoop a b kx i j=zaR d a b n))
  case atStart=>exact⟨0,d,rfl,by omega,rfl,E,rfl⟩
  case round=>
   clear E;obtain⟨i,j,rfl,ab,F,l,y⟩:=hrel;cases gk with
   |zero=>
     have G:¬(i:Int)<(n:Int):=(by omega);go_wp2;go_end0;exact⟨rfl,by rw[←y.out];exact l.out⟩
   |succ kx=>
     have G:(i:Int)<(n:Int):=(by omega);go_wp2_with fail;have ea:((a:Int)+(i:Int)).toNat=a+i:=(by omega);have pa:(0:Int)≤(a:Int)+(i:Int):=(by omega);have ba:(a:Int)+(i:Int)<(d.size:Int):=(by omega);have ra:IntKind.i64.wrap ((a:Int)+(i:Int))=(a:Int)+(i:Int):=(by rw[IntKind.wrap_i64];omega);have ec:((b:Int)+(i:Int)).toNat=b+i:=(by omega);have pc:(0:Int)≤(b:Int)+(i:Int):=(by omega);have bc:(b:Int)+(i:Int)<(d.size:Int):=(by omega);have rc:IntKind.i64.wrap ((b:Int)+(i:Int))=(b:Int)+(i:Int):=(by rw[IntKind.wrap_i64];omega);have p:Aside (SWK enc k m blk h (swp j (a+i) (b+i)) ((wr.drew.setCells blk (h+(a+i)*k) (enc j[b+i]!)).setCells blk (h+(b+i)*k) (enc j[a+i]!))):=l.out.swapped R (a+i) (b+i) (by omega) (by omega);have H:=l.out.ld1 R (by omega) P (a+i) (by omega);have I:=l.out.ld1 R (by omega) P (b+i) (by omega);have x:=l.out.st1 R (by omega) P (a+i) (by omega) j[b+i]!;have q:=l.out.st2 R (by omega) P (a+i) (b+i) (by omega) (by omega) j[b+i]! j[a+i]!;have W:(enc j[a+i]!).length=k:=R.hk _;have n2:(enc j[b+i]!).length=k:=R.hk _;generalize enc j[a+i]! =cI at p H q W;generalize enc j[b+i]! =cJ at p I x q n2;clear l;go_wp2_with fail;go_big_region_o;clear H I x q;generalize (wr.drew.setCells blk (h+(a+i)*k) cJ).setCells blk (h+(b+i)*k) cI=w2 at p⊢;go_wp2;go_roundg kx
     case measure=>omega
     case rel=>exact⟨i+1,swp j (a+i) (b+i),by go_num,by omega,by rw[size_swp];exact F,p,y⟩
end
section
variable {α:Type} [Inhabited α] {z:Bool} {P:Program} {k:Nat}
theorem zTp (L:StyZ z P k) (enc:α→List Value) (g:Nat) (A:Array Value) (blk h t a m b:Nat) (v d:Array α) (o w:World)
 (R:RowK enc k o blk h v) (hs:v.size=d.size) (S:SWK enc k o blk h d w) (ha:a<m) (hm:m<b) (hb:b≤d.size) (ab:d.size<4611686018427387904):
 Calls P (zrot z) #[.slice (some ⟨blk,h,none⟩) d.size t,.int .i64 a,.int .i64 m,.int .i64 b,.func (.func g) #[] A] w fun e w'=>e=.returned (.tuple #[])∧SWK enc k o blk h (rot d a m b) w':=by
 have D:Aside (StyZ _ P k):=L;obtain⟨X,t0,a0,z0,v0,t3,a3,z3,v3,t4,a4,z4,v4,tU,aU,zU,vU,tS,aS,zS,Y,tF,aF,zF,vF,Z,zE,J,s,F,O,M,G,E,C⟩:=L;clear J F O G E C;have U:Aside (SWK enc k o blk h d w):=S;clear S;have RR:Aside (RowK enc k o blk h v):=R;clear R;have V:((m-a:Nat):Int)=(m:Int)-(a:Int):=by omega
 have Q:((b-m:Nat):Int)=(b:Int)-(m:Int):=by omega
 have H:Hid _:=V;have N:Hid _:=Q;clear V Q;cases z
 all_goals simp only [ztS,ztF,ztE,zsw,zrot,brot]at tS aS zS Y tF aF zF vF Z zE s M⊢
 go_enter s,Tryz.ntmps213
 rotate_left
 go_enter s,Tryz.ntmps200
 all_goals
  go_wp2;go_loopg [10,11] (b-a) (fun n s10 s11 wr=>∃(i j:Nat) (l:Array α),s10=.int .i64 i∧s11=.int .i64 j∧0<i∧0<j∧i+j≤n∧a+i≤m∧m+j≤b∧l.size=d.size∧Aside (SWK enc k o blk h l wr)∧Hid (rotLoop m n i j l=rot d a m b))
  case atStart=>exact⟨m-a,b-m,d,by rw[H.out],by rw[N.out],by omega,by omega,by omega,by omega,by omega,rfl,U,rfl⟩
  case round=>
   clear U H N;obtain⟨i,j,l,rfl,rfl,aa,ai,af,ad,ag,r,x,u⟩:=hrel;obtain⟨n,rfl⟩:∃n,gk=n+1:=⟨gk-1,by omega⟩;by_cases he:i=j
   ·subst he;have p:Hid (zaR l (m-i) m i=rot d a m b):=by
     show _=_;rw[←u.out];show _=(if i=i then zaR l (m-i) m i else _);rw[if_pos rfl]
    clear u;have q:=z9a D.out enc g A blk h t (m-i) m i v l o wr RR.out (by omega) x.out (by omega) (by omega) (by omega);rw[r,show((m-i:Nat):Int)=(m:Int)-(i:Int) by omega]at q;have B:IntKind.i64.wrap ((m:Int)-(i:Int))=(m:Int)-(i:Int):=(by rw[IntKind.wrap_i64];omega);clear x;go_wp2_with ((first|go_at_fn 222|go_at_fn 214);refine q.mono ?_;rintro e I ⟨rfl,y⟩);go_end0;exact⟨rfl,by rw[←p.out];exact y⟩
   ·by_cases hlt:j<i
    ·have p:Hid (rotLoop m n (i-j) j (zaR l (m-i) m j)=rot d a m b):=by
      show _=_;rw[←u.out];show _=(if i=j then _ else if j<i then rotLoop m n (i-j) j (zaR l (m-i) m j)else _);rw[if_neg he,if_pos hlt]
     clear u;have K:¬((i:Int)=(j:Int)):=(by omega);have hz:(j:Int)<(i:Int):=(by omega);have q:=z9a D.out enc g A blk h t (m-i) m j v l o wr RR.out (by omega) x.out (by omega) (by omega) (by omega);rw[r,show((m-i:Nat):Int)=(m:Int)-(i:Int) by omega]at q;have B:IntKind.i64.wrap ((m:Int)-(i:Int))=(m:Int)-(i:Int):=(by rw[IntKind.wrap_i64];omega);have W:IntKind.i64.wrap ((i:Int)-(j:Int))=(i:Int)-(j:Int):=(by rw[IntKind.wrap_i64];omega);clear x;go_wp2_with ((first|go_at_fn 222|go_at_fn 214);refine q.mono ?_;rintro e I ⟨rfl,y⟩);go_roundg n
     case measure=>omega
     case rel=>exact⟨i-j,j,zaR l (m-i) m j,by congr 1;omega,rfl,by omega,by omega,by omega,by omega,by omega,by rw[z1k];exact r,y,p⟩
    ·have p:Hid (rotLoop m n i (j-i) (zaR l (m-i) (m+j-i) i)=rot d a m b):=by
      show _=_;rw[←u.out];show _=(if i=j then _ else if j<i then _ else rotLoop m n i (j-i) (zaR l (m-i) (m+j-i) i));rw[if_neg he,if_neg hlt]
     clear u;have K:¬((i:Int)=(j:Int)):=(by omega);have hz:¬(j:Int)<(i:Int):=(by omega);have q:=z9a D.out enc g A blk h t (m-i) (m+j-i) i v l o wr RR.out (by omega) x.out (by omega) (by omega) (by omega);rw[r,show((m-i:Nat):Int)=(m:Int)-(i:Int) by omega,show((m+j-i:Nat):Int)=(m:Int)+(j:Int)-(i:Int) by omega]at q;have B:IntKind.i64.wrap ((m:Int)-(i:Int))=(m:Int)-(i:Int):=(by rw[IntKind.wrap_i64];omega);have ah:IntKind.i64.wrap ((m:Int)+(j:Int))=(m:Int)+(j:Int):=(by rw[IntKind.wrap_i64];omega);have ae:IntKind.i64.wrap ((m:Int)+(j:Int)-(i:Int))=(m:Int)+(j:Int)-(i:Int):=(by rw[IntKind.wrap_i64];omega);have W:IntKind.i64.wrap ((j:Int)-(i:Int))=(j:Int)-(i:Int):=(by rw[IntKind.wrap_i64];omega);clear x;go_wp2_with ((first|go_at_fn 222|go_at_fn 214);refine q.mono ?_;rintro e I ⟨rfl,y⟩);go_roundg n
     case measure=>omega
     case rel=>exact⟨i,j-i,zaR l (m-i) (m+j-i) i,rfl,by congr 1;omega,by omega,by omega,by omega,by omega,by omega,by rw[z1k];exact r,y,p⟩
end
section
variable {α:Type} [Inhabited α] {z:Bool} {P:Program} {k:Nat}
theorem z6J (L:StyZ z P k) (enc:α→List Value) (r:α→α→Int) (g:Nat) (cb:Array Value) (blk l aq a m b:Nat) (d0 d:Array α) (v w:World)
 (eg:∀args w,(callFunc g args).run P w=.ok (.enter g args) w) (U:CmpLays P g cb enc k r blk l d0.size v)
 (R:RowK enc k v blk l d0) (hs:d0.size=d.size) (S:SWK enc k v blk l d w) (ha:m-a=1) (hm:m<b) (hb:b≤d.size) (aH:d.size<4611686018427387904):
 Calls P (zsym z) #[.slice (some ⟨blk,l,none⟩) d.size aq,.int .i64 a,.int .i64 m,.int .i64 b,.func (.func g) #[] cb] w fun e w'=>e=.returned (.tuple #[])∧SWK enc k v blk l (upTo (half (fun h=>ltOf r d[h]! d[a]!) (b-m+1) m b-1) (b-a) a d) w':=by
 obtain⟨aA,t0,a0,z0,v0,t3,a3,z3,v3,t4,a4,z4,v4,tU,aU,zU,vU,tS,aS,zS,vS,tF,aF,zF,vF,aE,zE,al,ah,I,ao,an,aj,ai,af⟩:=L;clear al ah ao aj an ai af;have HC:Aside _:=U;clear U;have S0:Aside (SWK enc k v blk l d w):=S;clear S;have RR:Aside (RowK enc k v blk l d0):=R;clear R;obtain rfl:m=a+1:=by omega
 obtain⟨H,hH⟩:∃H,H=half (fun h=>ltOf r d[h]! d[a]!) (b-(a+1)+1) (a+1) b:=⟨_,rfl⟩;rw[←hH];have ag:=zw6 (fun h=>ltOf r d[h]! d[a]!) (b-(a+1)+1) (a+1) b (by omega);rw[←hH]at ag;have HH:Hid _:=hH;clear hH ha;have aJ:IntKind.i64.wrap ((a:Int)+1-(a:Int))=1:=by rw[IntKind.wrap_i64];omega
 have aL:((a:Int)+1-(a:Int))=1:=by omega
 cases z
 all_goals simp only [ztS,ztF,ztE,zsym,bsym]at tS aS zS vS tF aF zF vF aE zE I⊢
 go_enter I,ntmps198
 rotate_left
 go_enter I,ntmps181
 all_goals
  go_wp2;go_loopg [10,11] (b-(a+1)+1) (fun t s10 s11 wr=>∃(i j:Nat),s10=.int .i64 i∧s11=.int .i64 j∧(a+1)≤i∧i≤j∧j≤b∧j-i+1≤t∧Aside (SWK enc k v blk l d wr)∧Hid (half (fun h=>ltOf r d[h]! d[a]!) t i j=H))
  case atStart=>exact⟨(a+1),b,by go_num,by go_num,Nat.le_refl _,by omega,Nat.le_refl _,by omega,S0,HH.out.symm⟩
  case round=>
   clear S0 HH;obtain⟨i,j,rfl,rfl,am,ar,aw,ay,o,B⟩:=hrel;obtain⟨t,rfl⟩:∃t,gk=t+1:=⟨gk-1,by omega⟩;by_cases hlt:i<j
   ·have hz:(i:Int)<(j:Int):=(by omega);obtain⟨h,hh⟩:∃h:Nat,h=(i+j)/2:=⟨_,rfl⟩;have s:Hid ((if ltOf r d[h]! d[a]! then half (fun h=>ltOf r d[h]! d[a]!) t (h+1) j else half (fun h=>ltOf r d[h]! d[a]!) t i h)=H):=by
     show _=_;rw[←B.out,hh];show _=(if i<j then(if ltOf r d[((i+j)/2)]! d[a]! then half (fun h=>ltOf r d[h]! d[a]!) t ((i+j)/2+1) j else half (fun h=>ltOf r d[h]! d[a]!) t i ((i+j)/2))else i);rw[if_pos hlt]
    clear B;have aB:((i:Int)+(j:Int))/2=(h:Int):=(by omega);have aX:i≤h∧h<j:=(by omega);have aI:IntKind.i64.wrap ((i:Int)+(j:Int))=(i:Int)+(j:Int):=(by rw[IntKind.wrap_i64];omega);have aC:IntKind.u64.wrap ((i:Int)+(j:Int))=(i:Int)+(j:Int):=(by rw[IntKind.wrap_u64];omega);have aN:IntKind.i64.wrap (h:Int)=(h:Int):=(by rw[IntKind.wrap_i64];omega);have aR:IntKind.u64.wrap (h:Int)=(h:Int):=(by rw[IntKind.wrap_u64];omega);clear hh;cases hlv:ltOf r d[h]! d[a]! with
    |true=>
      have E:Hid (half (fun h=>ltOf r d[h]! d[a]!) t (h+1) j=H):=by
       have:=s.out;rw[hlv]at this;exact this
      clear s;have N:((h:Int)).toNat=h:=(by omega);have Z:(0:Int)≤(h:Int):=(by omega);have W:(h:Int)<(d.size:Int):=(by omega);have V:IntKind.i64.wrap ((h:Int))=(h:Int):=(by rw[IntKind.wrap_i64];omega);have O:((a:Int)).toNat=a:=(by omega);have Y:(0:Int)≤(a:Int):=(by omega);have Q:(a:Int)<(d.size:Int):=(by omega);have M:IntKind.i64.wrap ((a:Int))=(a:Int):=(by rw[IntKind.wrap_i64];omega);obtain⟨G,u⟩:∃x,x=d[h]!:=⟨_,rfl⟩;obtain⟨K,y⟩:∃x,x=d[a]!:=⟨_,rfl⟩;have D:=o.out.ld RR.out (by omega) P (h) (by omega);have F:=o.out.ld RR.out (by omega) P (a) (by omega);rw[←u]at D;rw[←y]at F;have C:=o.out.cmp HC.out (by omega) G K;have X:r G K<0:=(by rw[u,y];exact of_decide_eq_true hlv);have ax:decide (r G K<0)=true:=decide_eq_true X;clear u y;go_wp2_with fail;go_quiet_grown (first|(go_at_fn g;refine Calls.grown_of (C _ _)));have A:Aside (SWK enc k v blk l d (grow (wr.drewN nq) osq)):=o.out.grown nq osq;clear D F C o N Z W V O Y Q M;generalize grow (wr.drewN nq) osq=wu1 at A⊢;clear nq osq;go_wp2;go_roundg t
      case measure=>omega
      case rel=>exact⟨h+1,j,by go_num,by go_num,by omega,by omega,by omega,by omega,A,E⟩
    |false=>
      have E:Hid (half (fun h=>ltOf r d[h]! d[a]!) t i h=H):=by
       have:=s.out;rw[hlv]at this;exact this
      clear s;have N:((h:Int)).toNat=h:=(by omega);have Z:(0:Int)≤(h:Int):=(by omega);have W:(h:Int)<(d.size:Int):=(by omega);have V:IntKind.i64.wrap ((h:Int))=(h:Int):=(by rw[IntKind.wrap_i64];omega);have O:((a:Int)).toNat=a:=(by omega);have Y:(0:Int)≤(a:Int):=(by omega);have Q:(a:Int)<(d.size:Int):=(by omega);have M:IntKind.i64.wrap ((a:Int))=(a:Int):=(by rw[IntKind.wrap_i64];omega);obtain⟨G,u⟩:∃x,x=d[h]!:=⟨_,rfl⟩;obtain⟨K,y⟩:∃x,x=d[a]!:=⟨_,rfl⟩;have D:=o.out.ld RR.out (by omega) P (h) (by omega);have F:=o.out.ld RR.out (by omega) P (a) (by omega);rw[←u]at D;rw[←y]at F;have C:=o.out.cmp HC.out (by omega) G K;have X:¬r G K<0:=(by rw[u,y];exact of_decide_eq_false hlv);have ax:decide (r G K<0)=false:=decide_eq_false X;clear u y;go_wp2_with fail;go_quiet_grown (first|(go_at_fn g;refine Calls.grown_of (C _ _)));have A:Aside (SWK enc k v blk l d (grow (wr.drewN nq) osq)):=o.out.grown nq osq;clear D F C o N Z W V O Y Q M;generalize grow (wr.drewN nq) osq=wu1 at A⊢;clear nq osq;go_wp2;go_roundg t
      case measure=>omega
      case rel=>exact⟨i,h,by go_num,by go_num,by omega,by omega,by omega,by omega,A,E⟩
   ·have hz:¬(i:Int)<(j:Int):=(by omega);obtain rfl:i=H:=by
     rw[←B.out];show _=(if i<j then _ else i);rw[if_neg hlt]
    clear B;clear ar aw ay am;have a1:IntKind.i64.wrap ((i:Int)-1)=(i:Int)-1:=(by rw[IntKind.wrap_i64];omega);go_wp2;go_loopg [13] (b-a) (fun J s13 wr2=>∃(q:Nat) (p:Array α),s13=.int .i64 q∧a≤q∧q≤i-1∧i-1-q≤J∧p.size=d.size∧Aside (SWK enc k v blk l p wr2)∧Hid (upTo (i-1) J q p=upTo (i-1) (b-a) a d))
    case atStart=>exact⟨a,d,rfl,Nat.le_refl _,by omega,by omega,rfl,o,rfl⟩
    case round=>
     clear o;obtain⟨q,p,rfl,aP,aV,aD,av,o,B⟩:=hrel;by_cases hq:q<i-1
     ·obtain⟨J,rfl⟩:∃J,gk=J+1:=⟨gk-1,by omega⟩;have s:Hid (upTo (i-1) J (q+1) (swp p q (q+1))=upTo (i-1) (b-a) a d):=by
       show _=_;rw[←B.out];show _=(if q<i-1 then _ else p);rw[if_pos hq]
      clear B;have ak:(q:Int)<(i:Int)-1:=(by omega);go_wp2_with fail;have aQ:((q:Int)).toNat=q:=(by omega);have aK:(0:Int)≤(q:Int):=(by omega);have aW:(q:Int)<(d.size:Int):=(by omega);have aO:IntKind.i64.wrap ((q:Int))=(q:Int):=(by rw[IntKind.wrap_i64];omega);have aM:((q:Int)+1).toNat=q+1:=(by omega);have aY:(0:Int)≤(q:Int)+1:=(by omega);have aT:(q:Int)+1<(d.size:Int):=(by omega);have aZ:IntKind.i64.wrap ((q:Int)+1)=(q:Int)+1:=(by rw[IntKind.wrap_i64];omega);have A:Aside (SWK enc k v blk l (swp p (q) (q+1)) ((wr.drew.setCells blk (l+(q)*k) (enc p[q+1]!)).setCells blk (l+(q+1)*k) (enc p[q]!))):=o.out.swapped RR.out (q) (q+1) (by omega) (by omega);have ad:=o.out.ld1 RR.out (by omega) P (q) (by omega);have ae:=o.out.ld1 RR.out (by omega) P (q+1) (by omega);have ab:=o.out.st1 RR.out (by omega) P (q) (by omega) p[q+1]!;have aa:=o.out.st2 RR.out (by omega) P (q) (q+1) (by omega) (by omega) p[q+1]! p[q]!;have az:(enc p[q]!).length=k:=RR.out.hk _;have au:(enc p[q+1]!).length=k:=RR.out.hk _;generalize enc p[q]! =cI2 at A ad aa az;generalize enc p[q+1]! =cJ2 at A ae ab aa au;clear o;go_wp2_with fail;go_big_region_o;clear ad ae ab aa;generalize (wr.drew.setCells blk (l+(q)*k) cJ2).setCells blk (l+(q+1)*k) cI2=wu2 at A⊢;go_wp2;go_roundg J
      case measure=>omega
      case rel=>exact⟨q+1,swp p q (q+1),by go_num,by omega,by omega,by omega,by rw[size_swp];exact av,A,s⟩
     ·have s:p=upTo (i-1) (b-a) a d:=by
       rw[←B.out];cases gk with
       |zero=>rfl
       |succ n=>show _=(if q<i-1 then _ else p);rw[if_neg hq]
      have E:Hid _:=s;clear B s;have ak:¬(q:Int)<(i:Int)-1:=(by omega);go_wp2
      (try simp only [Exit.inBlock,Exit.then])
      refine bodyPost_ret (results_none rfl _ _ _) rfl ?_;exact⟨rfl,by rw[←E.out];exact o.out⟩
theorem zow (L:StyZ z P k) (enc:α→List Value) (r:α→α→Int) (g:Nat) (cb:Array Value) (blk l aq a m b:Nat) (d0 d:Array α) (v w:World)
 (eg:∀args w,(callFunc g args).run P w=.ok (.enter g args) w) (U:CmpLays P g cb enc k r blk l d0.size v)
 (R:RowK enc k v blk l d0) (hs:d0.size=d.size) (S:SWK enc k v blk l d w) (aI:¬m-a=1) (a9:a<m) (hm:b-m=1) (hb:b≤d.size) (aH:d.size<4611686018427387904):
 Calls P (zsym z) #[.slice (some ⟨blk,l,none⟩) d.size aq,.int .i64 a,.int .i64 m,.int .i64 b,.func (.func g) #[] cb] w fun e w'=>e=.returned (.tuple #[])∧SWK enc k v blk l (downTo (half (fun h=>!ltOf r d[m]! d[h]!) (m-a+1) a m) (m-a) m d) w':=by
 obtain⟨aA,t0,a0,z0,v0,t3,a3,z3,v3,t4,a4,z4,v4,tU,aU,zU,vU,tS,aS,zS,vS,tF,aF,zF,vF,aE,zE,am,ai,I,ao,an,ak,aj,ag⟩:=L;clear am ai ao ak an aj ag;have HC:Aside _:=U;clear U;have S0:Aside (SWK enc k v blk l d w):=S;clear S;have RR:Aside (RowK enc k v blk l d0):=R;clear R;have ae:b=m+1:=by omega
 obtain⟨H,hH⟩:∃H,H=half (fun h=>!ltOf r d[m]! d[h]!) (m-a+1) a m:=⟨_,rfl⟩;rw[←hH];have ah:=zw6 (fun h=>!ltOf r d[m]! d[h]!) (m-a+1) a m (by omega);rw[←hH]at ah;have HH:Hid _:=hH;have a8:Hid _:=ae;clear hH hm;have aK:IntKind.i64.wrap ((m:Int)-(a:Int))=(m:Int)-(a:Int):=by rw[IntKind.wrap_i64];omega
 have aN:(((m:Int)-(a:Int))==1)=false:=by simp;omega
 have aZ:IntKind.i64.wrap ((b:Int)-(m:Int))=1:=by rw[IntKind.wrap_i64];omega
 have aT:((b:Int)-(m:Int))=1:=by omega
 have aO:m+1≤d.size:=by omega
 clear ae;cases z
 all_goals simp only [ztS,ztF,ztE,zsym,bsym]at tS aS zS vS tF aF zF vF aE zE I⊢
 go_enter I,ntmps198
 rotate_left
 go_enter I,ntmps181
 all_goals
  go_wp2;go_loopg [14,15] (m-a+1) (fun t s10 s11 wr=>∃(i j:Nat),s10=.int .i64 i∧s11=.int .i64 j∧a≤i∧i≤j∧j≤m∧j-i+1≤t∧Aside (SWK enc k v blk l d wr)∧Hid (half (fun h=>!ltOf r d[m]! d[h]!) t i j=H))
  case atStart=>exact⟨a,m,by go_num,by go_num,Nat.le_refl _,by omega,Nat.le_refl _,by omega,S0,HH.out.symm⟩
  case round=>
   clear S0 HH;obtain⟨i,j,rfl,rfl,aM,ar,aw,ay,o,B⟩:=hrel;obtain⟨t,rfl⟩:∃t,gk=t+1:=⟨gk-1,by omega⟩;by_cases hlt:i<j
   ·have hz:(i:Int)<(j:Int):=(by omega);obtain⟨h,hh⟩:∃h:Nat,h=(i+j)/2:=⟨_,rfl⟩;have s:Hid ((if !ltOf r d[m]! d[h]! then half (fun h=>!ltOf r d[m]! d[h]!) t (h+1) j else half (fun h=>!ltOf r d[m]! d[h]!) t i h)=H):=by
     show _=_;rw[←B.out,hh];show _=(if i<j then(if !ltOf r d[m]! d[((i+j)/2)]! then half (fun h=>!ltOf r d[m]! d[h]!) t ((i+j)/2+1) j else half (fun h=>!ltOf r d[m]! d[h]!) t i ((i+j)/2))else i);rw[if_pos hlt]
    clear B;have aB:((i:Int)+(j:Int))/2=(h:Int):=(by omega);have a5:i≤h∧h<j:=(by omega);have aJ:IntKind.i64.wrap ((i:Int)+(j:Int))=(i:Int)+(j:Int):=(by rw[IntKind.wrap_i64];omega);have aC:IntKind.u64.wrap ((i:Int)+(j:Int))=(i:Int)+(j:Int):=(by rw[IntKind.wrap_u64];omega);have aQ:IntKind.i64.wrap (h:Int)=(h:Int):=(by rw[IntKind.wrap_i64];omega);have aX:IntKind.u64.wrap (h:Int)=(h:Int):=(by rw[IntKind.wrap_u64];omega);clear hh;cases hlv:ltOf r d[m]! d[h]! with
    |true=>
      have E:Hid (half (fun h=>!ltOf r d[m]! d[h]!) t i h=H):=by
       have:=s.out;rw[hlv]at this;exact this
      clear s;have N:((m:Int)).toNat=m:=(by omega);have Z:(0:Int)≤(m:Int):=(by omega);have W:(m:Int)<(d.size:Int):=(by omega);have V:IntKind.i64.wrap ((m:Int))=(m:Int):=(by rw[IntKind.wrap_i64];omega);have O:((h:Int)).toNat=h:=(by omega);have Y:(0:Int)≤(h:Int):=(by omega);have Q:(h:Int)<(d.size:Int):=(by omega);have M:IntKind.i64.wrap ((h:Int))=(h:Int):=(by rw[IntKind.wrap_i64];omega);obtain⟨G,u⟩:∃x,x=d[m]!:=⟨_,rfl⟩;obtain⟨K,y⟩:∃x,x=d[h]!:=⟨_,rfl⟩;have D:=o.out.ld RR.out (by omega) P (m) (by omega);have F:=o.out.ld RR.out (by omega) P (h) (by omega);rw[←u]at D;rw[←y]at F;have C:=o.out.cmp HC.out (by omega) G K;have X:r G K<0:=(by rw[u,y];exact of_decide_eq_true hlv);have ax:decide (r G K<0)=true:=decide_eq_true X;clear u y;go_wp2_with fail;go_quiet_grown (first|(go_at_fn g;refine Calls.grown_of (C _ _)));have A:Aside (SWK enc k v blk l d (grow (wr.drewN nq) osq)):=o.out.grown nq osq;clear D F C o N Z W V O Y Q M;generalize grow (wr.drewN nq) osq=wu1 at A⊢;clear nq osq;go_wp2;go_roundg t
      case measure=>omega
      case rel=>exact⟨i,h,by go_num,by go_num,by omega,by omega,by omega,by omega,A,E⟩
    |false=>
      have E:Hid (half (fun h=>!ltOf r d[m]! d[h]!) t (h+1) j=H):=by
       have:=s.out;rw[hlv]at this;exact this
      clear s;have N:((m:Int)).toNat=m:=(by omega);have Z:(0:Int)≤(m:Int):=(by omega);have W:(m:Int)<(d.size:Int):=(by omega);have V:IntKind.i64.wrap ((m:Int))=(m:Int):=(by rw[IntKind.wrap_i64];omega);have O:((h:Int)).toNat=h:=(by omega);have Y:(0:Int)≤(h:Int):=(by omega);have Q:(h:Int)<(d.size:Int):=(by omega);have M:IntKind.i64.wrap ((h:Int))=(h:Int):=(by rw[IntKind.wrap_i64];omega);obtain⟨G,u⟩:∃x,x=d[m]!:=⟨_,rfl⟩;obtain⟨K,y⟩:∃x,x=d[h]!:=⟨_,rfl⟩;have D:=o.out.ld RR.out (by omega) P (m) (by omega);have F:=o.out.ld RR.out (by omega) P (h) (by omega);rw[←u]at D;rw[←y]at F;have C:=o.out.cmp HC.out (by omega) G K;have X:¬r G K<0:=(by rw[u,y];exact of_decide_eq_false hlv);have ax:decide (r G K<0)=false:=decide_eq_false X;clear u y;go_wp2_with fail;go_quiet_grown (first|(go_at_fn g;refine Calls.grown_of (C _ _)));have A:Aside (SWK enc k v blk l d (grow (wr.drewN nq) osq)):=o.out.grown nq osq;clear D F C o N Z W V O Y Q M;generalize grow (wr.drewN nq) osq=wu1 at A⊢;clear nq osq;go_wp2;go_roundg t
      case measure=>omega
      case rel=>exact⟨h+1,j,by go_num,by go_num,by omega,by omega,by omega,by omega,A,E⟩
   ·have hz:¬(i:Int)<(j:Int):=(by omega);obtain rfl:i=H:=by
     rw[←B.out];show _=(if i<j then _ else i);rw[if_neg hlt]
    clear B;clear ar aw ay;go_wp2;go_loopg [17] (m-a) (fun J s17 wr2=>∃(q:Nat) (p:Array α),s17=.int .i64 q∧q≤m∧i≤q∧q-i≤J∧p.size=d.size∧Aside (SWK enc k v blk l p wr2)∧Hid (downTo i J q p=downTo i (m-a) m d))
    case atStart=>exact⟨m,d,rfl,Nat.le_refl _,by omega,by omega,rfl,o,rfl⟩
    case round=>
     clear o;obtain⟨q,p,rfl,aV,a1,aD,av,o,B⟩:=hrel;by_cases hq:i<q
     ·obtain⟨J,rfl⟩:∃J,gk=J+1:=⟨gk-1,by omega⟩;have s:Hid (downTo i J (q-1) (swp p q (q-1))=downTo i (m-a) m d):=by
       show _=_;rw[←B.out];show _=(if i<q then _ else p);rw[if_pos hq]
      clear B;have al:(i:Int)<(q:Int):=(by omega);go_wp2_with fail;have aW:((q:Int)).toNat=q:=(by omega);have aL:(0:Int)≤(q:Int):=(by omega);have a2:(q:Int)<(d.size:Int):=(by omega);have aR:IntKind.i64.wrap ((q:Int))=(q:Int):=(by rw[IntKind.wrap_i64];omega);have aP:((q:Int)-1).toNat=q-1:=(by omega);have a6:(0:Int)≤(q:Int)-1:=(by omega);have aY:(q:Int)-1<(d.size:Int):=(by omega);have a7:IntKind.i64.wrap ((q:Int)-1)=(q:Int)-1:=(by rw[IntKind.wrap_i64];omega);have A:Aside (SWK enc k v blk l (swp p (q) (q-1)) ((wr.drew.setCells blk (l+(q)*k) (enc p[q-1]!)).setCells blk (l+(q-1)*k) (enc p[q]!))):=o.out.swapped RR.out (q) (q-1) (by omega) (by omega);have ad:=o.out.ld1 RR.out (by omega) P (q) (by omega);have af:=o.out.ld1 RR.out (by omega) P (q-1) (by omega);have ab:=o.out.st1 RR.out (by omega) P (q) (by omega) p[q-1]!;have aa:=o.out.st2 RR.out (by omega) P (q) (q-1) (by omega) (by omega) p[q-1]! p[q]!;have az:(enc p[q]!).length=k:=RR.out.hk _;have au:(enc p[q-1]!).length=k:=RR.out.hk _;generalize enc p[q]! =cI2 at A ad aa az;generalize enc p[q-1]! =cJ2 at A af ab aa au;clear o;go_wp2_with fail;go_big_region_o;clear ad af ab aa;generalize (wr.drew.setCells blk (l+(q)*k) cJ2).setCells blk (l+(q-1)*k) cI2=wu2 at A⊢;go_wp2;go_roundg J
      case measure=>omega
      case rel=>exact⟨q-1,swp p q (q-1),by congr 1;omega,by omega,by omega,by omega,by rw[size_swp];exact av,A,s⟩
     ·have s:p=downTo i (m-a) m d:=by
       rw[←B.out];cases gk with
       |zero=>rfl
       |succ n=>show _=(if i<q then _ else p);rw[if_neg hq]
      have E:Hid _:=s;clear B s;have al:¬(i:Int)<(q:Int):=(by omega);go_wp2
      (try simp only [Exit.inBlock,Exit.then])
      refine bodyPost_ret (results_none rfl _ _ _) rfl ?_;exact⟨rfl,by rw[←E.out];exact o.out⟩
end
section
variable {α:Type} [Inhabited α] {z:Bool} {P:Program} {k:Nat}
theorem zie (lt:α→α→Bool)(f a m b:Nat)(d:Array α)(e:¬m-a=1)(g:¬b-m=1):symM lt (f+1) a m b d=
 (if(a+b)/2<(a+b)/2+m-zzQ lt d a m b∧(a+b)/2+m-zzQ lt d a m b<b then
  symM lt f ((a+b)/2) ((a+b)/2+m-zzQ lt d a m b) b
   (if a<zzQ lt d a m b∧zzQ lt d a m b<(a+b)/2 then symM lt f a (zzQ lt d a m b) ((a+b)/2) (if zzQ lt d a m b<m∧m<(a+b)/2+m-zzQ lt d a m b then rot d (zzQ lt d a m b) m ((a+b)/2+m-zzQ lt d a m b)else d)
    else(if zzQ lt d a m b<m∧m<(a+b)/2+m-zzQ lt d a m b then rot d (zzQ lt d a m b) m ((a+b)/2+m-zzQ lt d a m b)else d))
  else
   (if a<zzQ lt d a m b∧zzQ lt d a m b<(a+b)/2 then symM lt f a (zzQ lt d a m b) ((a+b)/2) (if zzQ lt d a m b<m∧m<(a+b)/2+m-zzQ lt d a m b then rot d (zzQ lt d a m b) m ((a+b)/2+m-zzQ lt d a m b)else d)
    else(if zzQ lt d a m b<m∧m<(a+b)/2+m-zzQ lt d a m b then rot d (zzQ lt d a m b) m ((a+b)/2+m-zzQ lt d a m b)else d))):=by
 conv=>lhs;unfold symM
 rw[if_neg e,if_neg g]
theorem zaC (L:StyZ z P k) (enc:α→List Value) (r:α→α→Int) (g:Nat) (cb:Array Value) (blk p ar f:Nat) (B:Array α) (v:World)
 (eg:∀args w,(callFunc g args).run P w=.ok (.enter g args) w) (ao:CmpLays P g cb enc k r blk p B.size v)
 (R:RowK enc k v blk p B) (a6:B.size<4611686018427387904)
 (ih:∀(a m b:Nat) (d:Array α) (w:World),b-a≤f→B.size=d.size→SWK enc k v blk p d w→a<m→m<b→b≤d.size→Calls P (zsym z) #[.slice (some ⟨blk,p,none⟩) B.size ar,.int .i64 a,.int .i64 m,.int .i64 b,.func (.func g) #[] cb] w fun e w'=>e=.returned (.tuple #[])∧SWK enc k v blk p (symM (ltOf r) f a m b d) w')
 (a m b:Nat) (d:Array α) (w:World) (hf:b-a≤f+1) (hs:B.size=d.size) (S:SWK enc k v blk p d w) (bt:a<m) (ba:m<b) (hb:b≤d.size) (h1:¬m-a=1) (h2:¬b-m=1):
 Calls P (zsym z) #[.slice (some ⟨blk,p,none⟩) B.size ar,.int .i64 a,.int .i64 m,.int .i64 b,.func (.func g) #[] cb] w fun e w'=>e=.returned (.tuple #[])∧SWK enc k v blk p (symM (ltOf r) (f+1) a m b d) w':=by
 have LL:Aside (StyZ _ P k):=L;obtain⟨aX,t0,a0,z0,v0,t3,a3,z3,v3,t4,a4,z4,v4,tU,aU,zU,vU,tS,aS,zS,vS,tF,aF,zF,vF,aE,zE,aL,aI,ab,aN,aM,aK,aJ,aD⟩:=L;clear aL aI aN aM aD;rw[zie (ltOf r) f a m b d h1 h2];have aW:d.size<4611686018427387904:=by omega
 obtain⟨l,aa⟩:∃l,l=(a+b)/2:=⟨_,rfl⟩;have a1:a<l∧l<b:=by omega
 obtain⟨H,hH⟩:∃H,H=zzQ (ltOf r) d a m b:=⟨_,rfl⟩;rw[←hH,←aa];have ag:H=half (fun c=>!ltOf r d[l+m-1-c]! d[c]!) (b-a+1) (if l<m then l+m-b else a) (if l<m then l else m):=by rw[hH,aa];rfl
 obtain⟨C,M⟩:∃C,C=(if l<m then l+m-b else a):=⟨_,rfl⟩;obtain⟨A,K⟩:∃A,A=(if l<m then l else m):=⟨_,rfl⟩;rw[←M,←K]at ag;have aQ:a≤C∧C≤A∧A≤m∧A≤l∧l+m-A≤b∧l+m-C≤b∧A-C+1≤b-a+1:=by
  by_cases G:l<m
  ·rw[if_pos G]at M K;omega
  ·rw[if_neg G]at M K;omega
 have aH:=zw6 (fun c=>!ltOf r d[l+m-1-c]! d[c]!) (b-a+1) C A aQ.2.1;rw[←ag]at aH;have HH:Hid (H=half (fun c=>!ltOf r d[l+m-1-c]! d[c]!) (b-a+1) C A):=ag;have W:Hid ((l<m→C=l+m-b∧A=l)∧(¬l<m→C=a∧A=m)):=⟨fun h=>by rw[M,K,if_pos h,if_pos h];exact⟨rfl,rfl⟩,fun h=>by rw[M,K,if_neg h,if_neg h];exact⟨rfl,rfl⟩⟩;have aY:((a:Int)+(b:Int))/2=(l:Int):=by omega
 clear hH ag M K aa;have HC:Aside _:=ao;clear ao;have IH:Aside _:=ih;clear ih;have S0:Aside (SWK enc k v blk p d w):=S;clear S;have RR:Aside (RowK enc k v blk p B):=R;clear R;have a8:IntKind.i64.wrap ((m:Int)-(a:Int))=(m:Int)-(a:Int):=by rw[IntKind.wrap_i64];omega
 have bd:(((m:Int)-(a:Int))==1)=false:=by simp;omega
 have bm:IntKind.i64.wrap ((b:Int)-(m:Int))=(b:Int)-(m:Int):=by rw[IntKind.wrap_i64];omega
 have bi:(((b:Int)-(m:Int))==1)=false:=by simp;omega
 have be:IntKind.i64.wrap ((a:Int)+(b:Int))=(a:Int)+(b:Int):=by rw[IntKind.wrap_i64];omega
 have bk:IntKind.u64.wrap ((a:Int)+(b:Int))=(a:Int)+(b:Int):=by rw[IntKind.wrap_u64];omega
 have a9:IntKind.i64.wrap (l:Int)=(l:Int):=by rw[IntKind.wrap_i64];omega
 have bu:IntKind.u64.wrap (l:Int)=(l:Int):=by rw[IntKind.wrap_u64];omega
 have bh:IntKind.i64.wrap ((l:Int)+(m:Int))=(l:Int)+(m:Int):=by rw[IntKind.wrap_i64];omega
 have bp:IntKind.i64.wrap ((l:Int)+(m:Int)-1)=(l:Int)+(m:Int)-1:=by rw[IntKind.wrap_i64];omega
 have br:IntKind.i64.wrap ((l:Int)+(m:Int)-(b:Int))=(l:Int)+(m:Int)-(b:Int):=by rw[IntKind.wrap_i64];omega
 have ad:d.size=B.size:=hs.symm;clear hs aW;obtain⟨ay,Z⟩:∃ay,ay=(if l<l+m-H∧l+m-H<b then
  symM (ltOf r) f l (l+m-H) b (if a<H∧H<l then symM (ltOf r) f a H l (if H<m∧m<l+m-H then rot d H m (l+m-H)else d)else(if H<m∧m<l+m-H then rot d H m (l+m-H)else d))
  else(if a<H∧H<l then symM (ltOf r) f a H l (if H<m∧m<l+m-H then rot d H m (l+m-H)else d)else(if H<m∧m<l+m-H then rot d H m (l+m-H)else d))):=⟨_,rfl⟩
 rw[←Z];have HR:Hid _:=Z;clear Z;cases z
 all_goals simp only [ztS,ztF,ztE,zrot,zsym,bsym]at tS aS zS vS tF aF zF vF aE zE ab aK aJ⊢
 go_enter ab,Tryz.ntmps198
 rotate_left
 go_enter ab,Tryz.ntmps181
 all_goals
  go_upto_if 140 with fail;go_cut [20,21,140]from 300 (fun s20 s21 _ wc=>s20=.int .i64 C∧s21=.int .i64 A∧wc=w)
  case first=>
   by_cases G:l<m
   ·have aR:(l:Int)<(m:Int):=(by omega);obtain⟨aA,aB⟩:=W.out.1 G;have aO:(l:Int)+(m:Int)-(b:Int)=(C:Int):=(by omega);have HL:Hid (C=l+m-b∧A=l):=⟨aA,aB⟩;clear W aA aB;go_wp2;go_meet
    case rel=>exact⟨by first|rfl|rw[aO],by rw[HL.out.2],rfl⟩
   ·have aR:¬(l:Int)<(m:Int):=(by omega);have HL:Hid (C=a∧A=m):=W.out.2 G;clear W;go_wp2;go_meet
    case rel=>exact⟨by rw[HL.out.1],by rw[HL.out.2],rfl⟩
  case rest=>
   clear W;obtain⟨rfl,rfl,rfl⟩:=hcut;go_wp2;go_loopg [20,21] (b-a+1) (fun E s10 s11 wr=>∃(i j:Nat),s10=.int .i64 i∧s11=.int .i64 j∧C≤i∧i≤j∧j≤A∧j-i+1≤E∧Aside (SWK enc k v blk p d wr)∧Hid (half (fun h=>!ltOf r d[l+m-1-h]! d[h]!) E i j=H))
   case atStart=>exact⟨C,A,by go_num,by go_num,Nat.le_refl _,by omega,Nat.le_refl _,by omega,S0,HH.out.symm⟩
   case round=>
    clear S0 HH;obtain⟨i,j,rfl,rfl,bc,aP,aT,aV,n,HE⟩:=hrel;obtain⟨E,rfl⟩:∃E,gk=E+1:=⟨gk-1,by omega⟩;by_cases hlt:i<j
    ·have hz:(i:Int)<(j:Int):=(by omega);obtain⟨h,hh⟩:∃h:Nat,h=(i+j)/2:=⟨_,rfl⟩;have ae:Hid ((if !ltOf r d[l+m-1-h]! d[h]! then half (fun h=>!ltOf r d[l+m-1-h]! d[h]!) E (h+1) j else half (fun h=>!ltOf r d[l+m-1-h]! d[h]!) E i h)=H):=by
      show _=_;rw[←HE.out,hh];show _=(if i<j then(if !ltOf r d[l+m-1-((i+j)/2)]! d[((i+j)/2)]! then half (fun h=>!ltOf r d[l+m-1-h]! d[h]!) E ((i+j)/2+1) j else half (fun h=>!ltOf r d[l+m-1-h]! d[h]!) E i ((i+j)/2))else i);rw[if_pos hlt]
     clear HE;have aZ:((i:Int)+(j:Int))/2=(h:Int):=(by omega);have bn:i≤h∧h<j:=(by omega);have a7:IntKind.i64.wrap ((i:Int)+(j:Int))=(i:Int)+(j:Int):=(by rw[IntKind.wrap_i64];omega);have a5:IntKind.u64.wrap ((i:Int)+(j:Int))=(i:Int)+(j:Int):=(by rw[IntKind.wrap_u64];omega);have bg:IntKind.i64.wrap (h:Int)=(h:Int):=(by rw[IntKind.wrap_i64];omega);have bj:IntKind.u64.wrap (h:Int)=(h:Int):=(by rw[IntKind.wrap_u64];omega);clear hh;obtain⟨t,ht⟩:∃t:Nat,t=l+m-1-h:=⟨_,rfl⟩;have bb:(l:Int)+(m:Int)-1-(h:Int)=(t:Int):=(by omega);have bs:t<b:=(by omega);have HT:Hid (t=l+m-1-h):=ht;clear ht;cases hlv:ltOf r d[t]! d[h]! with
     |true=>
       have aj:Hid (half (fun h=>!ltOf r d[l+m-1-h]! d[h]!) E i h=H):=by
        have:=ae.out;rw[←HT.out,hlv]at this;exact this
       clear ae;have ak:((t:Int)).toNat=t:=(by omega);have ax:(0:Int)≤(t:Int):=(by omega);have au:(t:Int)<(B.size:Int):=(by omega);have aq:IntKind.i64.wrap ((t:Int))=(t:Int):=(by rw[IntKind.wrap_i64];omega);have al:((h:Int)).toNat=h:=(by omega);have aw:(0:Int)≤(h:Int):=(by omega);have am:(h:Int)<(B.size:Int):=(by omega);have ai:IntKind.i64.wrap ((h:Int))=(h:Int):=(by rw[IntKind.wrap_i64];omega);obtain⟨x1,I⟩:∃x,x=d[t]!:=⟨_,rfl⟩;obtain⟨y1,J⟩:∃x,x=d[h]!:=⟨_,rfl⟩;have Q:=n.out.ld RR.out (by omega) P (t) (by omega);have U:=n.out.ld RR.out (by omega) P (h) (by omega);rw[←I]at Q;rw[←J]at U;have O:=n.out.cmp HC.out (by omega) x1 y1;have av:r x1 y1<0:=(by rw[I,J];exact of_decide_eq_true hlv);have Y:decide (r x1 y1<0)=true:=decide_eq_true av;clear I J;go_wp2_with fail;go_quiet_grown (first|(go_at_fn g;refine Calls.grown_of (O _ _)));have S2:Aside (SWK enc k v blk p d (grow (wr.drewN nq) osq)):=n.out.grown nq osq;clear Q U O n ak ax au aq al aw am ai;generalize grow (wr.drewN nq) osq=wu1 at S2⊢;clear nq osq;go_wp2;go_roundg E
       case measure=>omega
       case rel=>exact⟨i,h,by go_num,by go_num,by omega,by omega,by omega,by omega,S2,aj⟩
     |false=>
       have aj:Hid (half (fun h=>!ltOf r d[l+m-1-h]! d[h]!) E (h+1) j=H):=by
        have:=ae.out;rw[←HT.out,hlv]at this;exact this
       clear ae;have ak:((t:Int)).toNat=t:=(by omega);have ax:(0:Int)≤(t:Int):=(by omega);have au:(t:Int)<(B.size:Int):=(by omega);have aq:IntKind.i64.wrap ((t:Int))=(t:Int):=(by rw[IntKind.wrap_i64];omega);have al:((h:Int)).toNat=h:=(by omega);have aw:(0:Int)≤(h:Int):=(by omega);have am:(h:Int)<(B.size:Int):=(by omega);have ai:IntKind.i64.wrap ((h:Int))=(h:Int):=(by rw[IntKind.wrap_i64];omega);obtain⟨x1,I⟩:∃x,x=d[t]!:=⟨_,rfl⟩;obtain⟨y1,J⟩:∃x,x=d[h]!:=⟨_,rfl⟩;have Q:=n.out.ld RR.out (by omega) P (t) (by omega);have U:=n.out.ld RR.out (by omega) P (h) (by omega);rw[←I]at Q;rw[←J]at U;have O:=n.out.cmp HC.out (by omega) x1 y1;have av:¬r x1 y1<0:=(by rw[I,J];exact of_decide_eq_false hlv);have Y:decide (r x1 y1<0)=false:=decide_eq_false av;clear I J;go_wp2_with fail;go_quiet_grown (first|(go_at_fn g;refine Calls.grown_of (O _ _)));have S2:Aside (SWK enc k v blk p d (grow (wr.drewN nq) osq)):=n.out.grown nq osq;clear Q U O n ak ax au aq al aw am ai;generalize grow (wr.drewN nq) osq=wu1 at S2⊢;clear nq osq;go_wp2;go_roundg E
       case measure=>omega
       case rel=>exact⟨h+1,j,by go_num,by go_num,by omega,by omega,by omega,by omega,S2,aj⟩
    ·have hz:¬(i:Int)<(j:Int):=(by omega);obtain rfl:i=H:=by
      rw[←HE.out];show _=(if i<j then _ else i);rw[if_neg hlt]
     clear HE;clear aP aT aV;obtain⟨e,he⟩:∃e:Nat,e=l+m-i:=⟨_,rfl⟩;have bo:(l:Int)+(m:Int)-(i:Int)=(e:Int):=(by omega);have bf:IntKind.i64.wrap (e:Int)=(e:Int):=(by rw[IntKind.wrap_i64];omega);have a2:l≤e∧e≤b:=(by omega);have aC:Hid (e=l+m-i):=he;clear he;obtain⟨o,F⟩:∃o:Bool,o=decide (i<m∧m<e):=⟨_,rfl⟩;have u:Hid (o=decide (i<m∧m<e)):=F;clear F;go_upto_region 39 with fail;go_cut [185]from 300 (fun s wc=>s=.bool o∧Aside (SWK enc k v blk p d wc))
     case first=>
      by_cases q1:i<m
      ·have X:(i:Int)<(m:Int):=(by omega);by_cases q2:m<e
       ·have V:(m:Int)<(e:Int):=(by omega);have y:Hid (o=true):=(by show _=_;rw[u.out];exact decide_eq_true ⟨q1,q2⟩);go_wp2;go_meet
        case rel=>exact⟨by rw[y.out],n⟩
       ·have V:¬(m:Int)<(e:Int):=(by omega);have y:Hid (o=false):=(by show _=_;rw[u.out];exact decide_eq_false (fun h=>q2 h.2));go_wp2;go_meet
        case rel=>exact⟨by rw[y.out],n⟩
      ·have X:¬(i:Int)<(m:Int):=(by omega);have y:Hid (o=false):=(by show _=_;rw[u.out];exact decide_eq_false (fun h=>q1 h.1));go_wp2;go_meet
       case rel=>exact⟨by rw[y.out],n⟩
     case rest=>
      clear n;obtain⟨rfl,n⟩:=hcut;obtain⟨D,Y⟩:∃D,D=(if i<m∧m<e then rot d i m e else d):=⟨_,rfl⟩;have az:D.size=B.size:=by rw[Y];split<;>first|exact(zdT _ _ _ _).trans ad|exact ad
      have af:Hid (D=(if i<m∧m<e then rot d i m e else d)):=Y;clear Y;go_upto_if 185 with fail;go_cut [185]from 300 (fun _ wx=>Aside (SWK enc k v blk p D wx))
      case first=>
       by_cases q:i<m∧m<e
       ·have G:=zTp LL.out enc g cb blk p ar i m e B d v wc RR.out ad.symm n.out q.1 q.2 (by omega) (by omega);rw[ad]at G;have hE:Hid (D=rot d i m e):=(by show _=_;rw[af.out,if_pos q]);obtain rfl:o=true:=(by rw[u.out];exact decide_eq_true q);clear n u;go_wp2_with ((first|go_at_fn 213|go_at_fn 200);refine G.mono ?_;rintro e1 w1 ⟨rfl,S3⟩);go_meet
        case rel=>exact(by rw[hE.out];exact S3)
       ·have hE:Hid (D=d):=(by show _=_;rw[af.out,if_neg q]);obtain rfl:o=false:=(by rw[u.out];exact decide_eq_false q);go_wp2;go_meet
        case rel=>exact(by rw[hE.out];exact n)
      case rest=>
       clear n u;have n:=hcut;clear hcut;obtain⟨o,F⟩:∃o:Bool,o=decide (a<i∧i<l):=⟨_,rfl⟩;have u:Hid (o=decide (a<i∧i<l)):=F;clear F;go_upto_region 41 with fail;go_cut [199]from 300 (fun s wc=>s=.bool o∧Aside (SWK enc k v blk p D wc))
       case first=>
        by_cases q1:a<i
        ·have X:(a:Int)<(i:Int):=(by omega);by_cases q2:i<l
         ·have V:(i:Int)<(l:Int):=(by omega);have y:Hid (o=true):=(by show _=_;rw[u.out];exact decide_eq_true ⟨q1,q2⟩);go_wp2;go_meet
          case rel=>exact⟨by rw[y.out],n⟩
         ·have V:¬(i:Int)<(l:Int):=(by omega);have y:Hid (o=false):=(by show _=_;rw[u.out];exact decide_eq_false (fun h=>q2 h.2));go_wp2;go_meet
          case rel=>exact⟨by rw[y.out],n⟩
        ·have X:¬(a:Int)<(i:Int):=(by omega);have y:Hid (o=false):=(by show _=_;rw[u.out];exact decide_eq_false (fun h=>q1 h.1));go_wp2;go_meet
         case rel=>exact⟨by rw[y.out],n⟩
       case rest=>
        clear n;obtain⟨rfl,n⟩:=hcut;obtain⟨N,an⟩:∃N,N=(if a<i∧i<l then symM (ltOf r) f a i l D else D):=⟨_,rfl⟩;have bl:N.size=B.size:=by rw[an];split<;>first|exact(zJ2 _ _ _ _ _ _).trans az|exact az
        have ah:Hid (N=(if a<i∧i<l then symM (ltOf r) f a i l D else D)):=an;clear an;go_upto_if 199 with fail;go_cut [199]from 300 (fun _ wx=>Aside (SWK enc k v blk p N wx))
        case first=>
         by_cases q:a<i∧i<l
         ·have G:=IH.out a i l D wc (by omega) (by omega) n.out q.1 q.2 (by omega);have hE:Hid (N=symM (ltOf r) f a i l D):=(by show _=_;rw[ah.out,if_pos q]);obtain rfl:o=true:=(by rw[u.out];exact decide_eq_true q);clear n u;go_wp2_with ((first|go_at_fn 198|go_at_fn 181);refine G.mono ?_;rintro e1 w1 ⟨rfl,S3⟩);go_meet
          case rel=>exact(by rw[hE.out];exact S3)
         ·have hE:Hid (N=D):=(by show _=_;rw[ah.out,if_neg q]);obtain rfl:o=false:=(by rw[u.out];exact decide_eq_false q);go_wp2;go_meet
          case rel=>exact(by rw[hE.out];exact n)
        case rest=>
         clear n u;have n:=hcut;clear hcut;obtain⟨o,F⟩:∃o:Bool,o=decide (l<e∧e<b):=⟨_,rfl⟩;have u:Hid (o=decide (l<e∧e<b)):=F;clear F;go_upto_region 43 with fail;go_cut [213]from 300 (fun s wc=>s=.bool o∧Aside (SWK enc k v blk p N wc))
         case first=>
          by_cases q1:l<e
          ·have X:(l:Int)<(e:Int):=(by omega);by_cases q2:e<b
           ·have V:(e:Int)<(b:Int):=(by omega);have y:Hid (o=true):=(by show _=_;rw[u.out];exact decide_eq_true ⟨q1,q2⟩);go_wp2;go_meet
            case rel=>exact⟨by rw[y.out],n⟩
           ·have V:¬(e:Int)<(b:Int):=(by omega);have y:Hid (o=false):=(by show _=_;rw[u.out];exact decide_eq_false (fun h=>q2 h.2));go_wp2;go_meet
            case rel=>exact⟨by rw[y.out],n⟩
          ·have X:¬(l:Int)<(e:Int):=(by omega);have y:Hid (o=false):=(by show _=_;rw[u.out];exact decide_eq_false (fun h=>q1 h.1));go_wp2;go_meet
           case rel=>exact⟨by rw[y.out],n⟩
         case rest=>
          clear n;obtain⟨rfl,n⟩:=hcut;by_cases q:l<e∧e<b
          ·have G:=IH.out l e b N wc (by omega) (by omega) n.out q.1 q.2 (by omega);obtain rfl:o=true:=(by rw[u.out];exact decide_eq_true q);clear n u;go_wp2_with ((first|go_at_fn 198|go_at_fn 181);refine G.mono ?_;rintro e1 w1 ⟨rfl,S3⟩);go_end0;exact⟨rfl,by rw[HR.out,←aC.out,←af.out,←ah.out,if_pos q];exact S3⟩
          ·obtain rfl:o=false:=(by rw[u.out];exact decide_eq_false q);go_wp2;go_end0;exact⟨rfl,by rw[HR.out,←aC.out,←af.out,←ah.out,if_neg q];exact n.out⟩
theorem zEc (L:StyZ z P k) (enc:α→List Value) (j:α→α→Int) (g:Nat) (t:Array Value) (blk i p:Nat) (l:Array α) (n:World)
 (u:∀args w,(callFunc g args).run P w=.ok (.enter g args) w) (o:CmpLays P g t enc k j blk i l.size n)
 (R:RowK enc k n blk i l) (x:l.size<4611686018427387904) (f:Nat):∀(a m b:Nat) (d:Array α) (w:World),b-a≤f→l.size=d.size→SWK enc k n blk i d w→a<m→m<b→b≤d.size→Calls P (zsym z) #[.slice (some ⟨blk,i,none⟩) l.size p,.int .i64 a,.int .i64 m,.int .i64 b,.func (.func g) #[] t] w fun e w'=>e=.returned (.tuple #[])∧SWK enc k n blk i (symM (ltOf j) f a m b d) w':=by
 induction f with
 |zero=>intro a m b d w y q S s r;omega
 |succ f ih=>
   intro a m b d w y q S s r v;by_cases h1:m-a=1
   ·have h:=z6J L enc j g t blk i p a m b l d n w u o R q S h1 r v (by omega);rw[←q]at h;have e:symM (ltOf j) (f+1) a m b d=upTo (half (fun h=>ltOf j d[h]! d[a]!) (b-m+1) m b-1) (b-a) a d:=by
     conv=>lhs;unfold symM
     rw[if_pos h1]
    rw[e];exact h
   ·by_cases h2:b-m=1
    ·have h:=zow L enc j g t blk i p a m b l d n w u o R q S h1 s h2 v (by omega);rw[←q]at h;have e:symM (ltOf j) (f+1) a m b d=downTo (half (fun h=>!ltOf j d[m]! d[h]!) (m-a+1) a m) (m-a) m d:=by
      conv=>lhs;unfold symM
      rw[if_neg h1,if_pos h2]
     rw[e];exact h
    ·exact zaC L enc j g t blk i p f l n u o R x ih a m b d w y q S s r v h1 h2
end
section
variable {α:Type} [Inhabited α] {z:Bool} {P:Program} {k:Nat}
theorem zzz (L:StyZ z P k) (enc:α→List Value) (j:α→α→Int) (g:Nat) (cb:Array Value) (blk o O:Nat) (q d:Array α) (s w:World)
 (eg:∀args w,(callFunc g args).run P w=.ok (.enter g args) w) (J:CmpLays P g cb enc k j blk o q.size s)
 (W:∀(a b:Nat) (d:Array α) (w:World),q.size=d.size→SWK enc k s blk o d w→a≤b→b≤d.size→Calls P (zins z) #[.slice (some ⟨blk,o,none⟩) q.size O,.int .i64 a,.int .i64 b,.func (.func g) #[] cb] w fun e w'=>e=.returned (.tuple #[])∧SWK enc k s blk o (Sort.insertionSort (ltOf j) d a b) w')
 (R:RowK enc k s blk o q) (hs:d.size=q.size) (S:SWK enc k s blk o d w) (ai:q.size≤1000000):
 Calls P (zst z) #[.slice (some ⟨blk,o,none⟩) q.size O,.int .i64 q.size,.func (.func g) #[] cb] w fun e w'=>e=.returned (.tuple #[])∧SWK enc k s blk o (zjN (ltOf j) d) w':=by
 have I:Aside _:=zEc L enc j g cb blk o O q s eg J R (by omega);obtain⟨ao,t0,a0,z0,v0,t3,a3,z3,v3,t4,a4,z4,v4,tU,aU,zU,vU,tS,aS,zS,vS,tF,aF,zF,vF,aE,zE,ak,ad,af,K,al,ag,ae,ab⟩:=L;clear ak ad af al ag;have U:Aside _:=W;have V:Aside (SWK enc k s blk o d w):=S;clear S W J R eg;obtain⟨B,hB⟩:∃B,B=zSe (ltOf j) (q.size+1) 0 q.size d:=⟨_,rfl⟩;obtain⟨x,F⟩:∃x,x=z2U (ltOf j) (q.size+1) 20 q.size (Sort.insertionSort (ltOf j) B.2 B.1 q.size):=⟨_,rfl⟩;have e0:zjN (ltOf j) d=x:=by
  rw[F,hB];unfold zjN;rw[hs]
 rw[e0];have HB:Hid _:=hB;have E:Hid _:=F;have HS:Hid (d.size=q.size):=hs;clear hB F e0 hs;obtain⟨N,hN⟩:∃N,N=q.size:=⟨_,rfl⟩;rw[←hN]at I U HB E HS ai⊢;clear hN;cases z
 all_goals simp only [ztS,ztF,ztE,zsym,zins,zst,bst]at tS aS zS vS tF aF zF vF aE zE K ae ab⊢
 go_enter K,Tryz.ntmps178
 rotate_left
 go_enter K,Tryz.ntmps163
 all_goals
  go_wp2;go_loopg [7,8] (N+1) (fun p s7 s8 wr=>∃(a:Nat) (l:Array α),s7=.int .i64 a∧s8=.int .i64 ((a:Int)+20)∧a≤N∧N+1≤p+a∧Aside (l.size=N)∧Aside (SWK enc k s blk o l wr)∧Hid (zSe (ltOf j) p a N l=B))
  case atStart=>exact⟨0,d,rfl,rfl,by omega,by omega,HS,V,HB.out.symm⟩
  case round=>
   clear V HB HS;obtain⟨a,l,rfl,rfl,Q,aa,i,r,v⟩:=hrel;obtain⟨p,rfl⟩:∃p,gk=p+1:=⟨gk-1,by omega⟩;by_cases hlt:a+20≤N
   ·have Y:(a:Int)+20≤(N:Int):=(by omega);have H:Hid (zSe (ltOf j) p (a+20) N (Sort.insertionSort (ltOf j) l a (a+20))=B):=by
     show _=_;rw[←v.out];show _=(if a+20≤N then _ else _);rw[if_pos hlt]
    clear v;have aj:IntKind.i64.wrap ((a:Int)+20+20)=(a:Int)+20+20:=(by rw[IntKind.wrap_i64];omega);have t:=U.out a (a+20) l wr (by have:=i.out;omega) r.out (by omega) (by have:=i.out;omega);rw[show((a+20:Nat):Int)=(a:Int)+20 by omega]at t;have m:Aside ((Sort.insertionSort (ltOf j) l a (a+20)).size=N):=(zpf _ _ _ _).trans i.out;clear r i;go_wp2_with ((first|go_at_fn 197|go_at_fn 180);refine t.mono ?_;rintro e1 Z ⟨rfl,A⟩);go_roundg p
    case measure=>omega
    case rel=>exact⟨a+20,Sort.insertionSort (ltOf j) l a (a+20),by go_num,by first|rfl|go_num|(congr 1;omega),by omega,by omega,m,A,H⟩
   ·have Y:¬(a:Int)+20≤(N:Int):=(by omega);obtain rfl:B=(a,l):=by
     rw[←v.out];show(if a+20≤N then _ else(a,l))=_;rw[if_neg hlt]
    clear v;have t:=U.out a N l wr (by have:=i.out;omega) r.out Q (by have:=i.out;omega);have m:Aside ((Sort.insertionSort (ltOf j) l a N).size=N):=(zpf _ _ _ _).trans i.out;have C:Hid (x=z2U (ltOf j) (N+1) 20 N (Sort.insertionSort (ltOf j) l a N)):=E.out;clear r i E;generalize Sort.insertionSort (ltOf j) l a N=d1 at t m C;clear hlt Q aa;go_wp2_with ((first|go_at_fn 197|go_at_fn 180);refine t.mono ?_;rintro e1 Z ⟨rfl,A⟩);have V:Aside (SWK enc k s blk o d1 Z):=A;clear A t;clear Y;go_wp2;go_loopg [6] (N+1) (fun p s6 wr=>∃(h:Nat) (l:Array α),s6=.int .i64 h∧20≤h∧h≤4000000∧N<p+h∧Aside (l.size=N)∧Aside (SWK enc k s blk o l wr)∧Hid (x=z2U (ltOf j) p h N l))
    case atStart=>exact⟨20,d1,rfl,Nat.le_refl _,by omega,by omega,m,V,C⟩
    case round=>
     clear V m C;obtain⟨h,l,rfl,ar,aq,aa,i,r,E⟩:=hrel;by_cases hlt:h<N
     ·have Y:(h:Int)<(N:Int):=(by omega);obtain⟨p,rfl⟩:∃p,gk=p+1:=⟨gk-1,by omega⟩;obtain⟨M,hM⟩:∃M,M=zHU (ltOf j) h (N+1) 0 N l:=⟨_,rfl⟩;have HM:Hid (M=zHU (ltOf j) h (N+1) 0 N l):=hM;obtain⟨D,hD⟩:∃D,D=(if M.1+h<N then symM (ltOf j) (2*h+1) M.1 (M.1+h) N M.2 else M.2):=⟨_,rfl⟩;have X:Hid (D=(if M.1+h<N then symM (ltOf j) (2*h+1) M.1 (M.1+h) N M.2 else M.2)):=hD;have C:Hid (x=z2U (ltOf j) p (h*2) N D):=by
       show _=_;rw[E.out];show(if h<N then z2U (ltOf j) p (h*2) N (z8r (ltOf j) h N l)else l)=_;rw[if_pos hlt,hD,hM];rfl
      clear E hM hD;have aj:IntKind.i64.wrap (2*(h:Int))=2*(h:Int):=(by rw[IntKind.wrap_i64];omega);have aw:IntKind.i64.wrap ((h:Int)*2)=(h:Int)*2:=(by rw[IntKind.wrap_i64];omega);go_wp2;go_loopg [7,8] (N+1) (fun G s7 s8 wr2=>∃(a:Nat) (u:Array α),s7=.int .i64 a∧s8=.int .i64 ((a:Int)+2*(h:Int))∧a≤N∧N+1≤G+a∧Aside (u.size=N)∧Aside (SWK enc k s blk o u wr2)∧Hid (zHU (ltOf j) h G a N u=M))
      case atStart=>exact⟨0,l,rfl,by first|rfl|(congr 1;omega),by omega,by omega,i,r,HM.out.symm⟩
      case round=>
       clear r HM i;obtain⟨a,u,rfl,rfl,Q,au,i,r,v⟩:=hrel;obtain⟨G,rfl⟩:∃G,gk=G+1:=⟨gk-1,by omega⟩;by_cases hlt2:a+2*h≤N
       ·have ah:(a:Int)+2*(h:Int)≤(N:Int):=(by omega);have H:Hid (zHU (ltOf j) h G (a+2*h) N (symM (ltOf j) (2*h+1) a (a+h) (a+2*h) u)=M):=by
         show _=_;rw[←v.out];show _=(if a+2*h≤N then _ else _);rw[if_pos hlt2]
        clear v;have av:IntKind.i64.wrap ((a:Int)+2*(h:Int)+2*(h:Int))=(a:Int)+2*(h:Int)+2*(h:Int):=(by rw[IntKind.wrap_i64];omega);have an:IntKind.i64.wrap ((a:Int)+(h:Int))=(a:Int)+(h:Int):=(by rw[IntKind.wrap_i64];omega);have t:=I.out (2*h+1) a (a+h) (a+2*h) u wr (by omega) i.out.symm r.out (by omega) (by omega) (by have:=i.out;omega);rw[show((a+h:Nat):Int)=(a:Int)+(h:Int) by omega,show((a+2*h:Nat):Int)=(a:Int)+2*(h:Int) by omega]at t;have m:Aside ((symM (ltOf j) (2*h+1) a (a+h) (a+2*h) u).size=N):=(zJ2 _ _ _ _ _ _).trans i.out;clear r i;generalize symM (ltOf j) (2*h+1) a (a+h) (a+2*h) u=dn at t m H;go_wp2_with ((first|go_at_fn 198|go_at_fn 181);refine t.mono ?_;rintro e1 Z ⟨rfl,A⟩);go_roundg G
        case measure=>omega
        case rel=>exact⟨a+2*h,dn,by first|rfl|go_num|(congr 1;omega),by first|rfl|go_num|(congr 1;omega),by omega,by omega,m,A,H⟩
       ·have ah:¬(a:Int)+2*(h:Int)≤(N:Int):=(by omega);obtain rfl:M=(a,u):=by
         rw[←v.out];show(if a+2*h≤N then _ else(a,u))=_;rw[if_neg hlt2]
        clear v;have an:IntKind.i64.wrap ((a:Int)+(h:Int))=(a:Int)+(h:Int):=(by rw[IntKind.wrap_i64];omega);by_cases hq:a+h<N
        ·have am:(a:Int)+(h:Int)<(N:Int):=(by omega);have y:Hid (D=symM (ltOf j) (2*h+1) a (a+h) N u):=by
          show _=_;rw[X.out];exact if_pos hq
         clear X;have t:=I.out (2*h+1) a (a+h) N u wr (by omega) i.out.symm r.out (by omega) hq (by have:=i.out;omega);rw[show((a+h:Nat):Int)=(a:Int)+(h:Int) by omega,←y.out]at t;have m:Aside (D.size=N):=(by show _=_;rw[y.out];exact(zJ2 _ _ _ _ _ _).trans i.out);clear r i y;go_wp2_with ((first|go_at_fn 198|go_at_fn 181);refine t.mono ?_;rintro e1 Z ⟨rfl,A⟩);go_roundg p
         case measure=>omega
         case rel=>exact⟨h*2,D,by first|rfl|go_num|(congr 1;omega),by omega,by omega,by omega,m,A,C⟩
        ·have am:¬(a:Int)+(h:Int)<(N:Int):=(by omega);have y:Hid (D=u):=by
          show _=_;rw[X.out];exact if_neg hq
         clear X;have A:Aside (SWK enc k s blk o D wr):=(by show SWK _ _ _ _ _ _ _;rw[y.out];exact r.out);have m:Aside (D.size=N):=(by show _=_;rw[y.out];exact i.out);clear r i y;go_wp2;go_roundg p
         case measure=>omega
         case rel=>exact⟨h*2,D,by first|rfl|go_num|(congr 1;omega),by omega,by omega,by omega,m,A,C⟩
     ·have Y:¬(h:Int)<(N:Int):=(by omega);have v:Hid (x=l):=by
       show _=_;rw[E.out];cases gk with
       |zero=>rfl
       |succ n=>show(if h<N then _ else l)=l;rw[if_neg hlt]
      clear E;go_wp2;go_end0;exact⟨rfl,by rw[v.out];exact r.out⟩
end
end Go.Proofs.YtoeoinpaidhmcaaGreatDoor.srch
