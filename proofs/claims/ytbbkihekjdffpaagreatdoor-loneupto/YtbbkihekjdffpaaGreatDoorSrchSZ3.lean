/- Several texts in one. -/
import Derived.Test.YtbbkihekjdffpaaGreatDoorSrchPQ
import Derived.Deep.LoopGhost
import Derived.Sort.WalkB12
import Derived.Sort.WalkB2
set_option maxHeartbeats 4000000
set_option maxRecDepth 1000000
namespace Go.Proofs.YtbbkihekjdffpaaGreatDoor.srch
open Go.RowKit Go.Shelf
open Go.Sort (swp size_swp grow grow_grow grow_empty alloc_eq_grow size_grow)
def ztS (z:Bool):TypeId:=match z with | false=>26 | true=>177
def ztF (z:Bool):TypeId:=match z with | false=>262 | true=>183
def ztE (z:Bool):TypeId:=match z with | false=>74 | true=>181
def zsw (z:Bool):FuncId:=match z with | false=>196 | true=>190
def zrot (z:Bool):FuncId:=match z with | false=>189 | true=>174
def zsym (z:Bool):FuncId:=match z with | false=>172 | true=>152
def zst (z:Bool):FuncId:=match z with | false=>149 | true=>127
def zins (z:Bool):FuncId:=match z with | false=>171 | true=>151
noncomputable def bsw (z:Bool):Func:=match z with | false=>Tryz.f196 | true=>Tryz.f190
noncomputable def brot (z:Bool):Func:=match z with | false=>Tryz.f189 | true=>Tryz.f174
noncomputable def bsym (z:Bool):Func:=match z with | false=>Tryz.f172 | true=>Tryz.f152
noncomputable def bst (z:Bool):Func:=match z with | false=>Tryz.f149 | true=>Tryz.f127
structure StyZ (z:Bool) (P:Program) (k:Nat):Prop where
 mixed:P.follows .mixedOrders=true
 t0:P.underlying 0=some (TypeDesc.tuple #[])
 a0:∀ w,(isAgg 0).run P w=.ok false w
 z0:∀ w,(Go.sizeOf 0).run P w=.ok 1 w
 v0:∀ w,(zeroValue 0).run P w=.ok (Value.tuple #[]) w
 t3:P.underlying 3=some (TypeDesc.int IntKind.i64)
 a3:∀ w,(isAgg 3).run P w=.ok false w
 z3:∀ w,(Go.sizeOf 3).run P w=.ok 1 w
 v3:∀ w,(zeroValue 3).run P w=.ok (Value.int IntKind.i64 0) w
 t4:P.underlying 4=some (TypeDesc.bool)
 a4:∀ w,(isAgg 4).run P w=.ok false w
 z4:∀ w,(Go.sizeOf 4).run P w=.ok 1 w
 v4:∀ w,(zeroValue 4).run P w=.ok (Value.bool false) w
 tU:P.underlying 202=some (TypeDesc.int IntKind.u64)
 aU:∀ w,(isAgg 202).run P w=.ok false w
 zU:∀ w,(Go.sizeOf 202).run P w=.ok 1 w
 vU:∀ w,(zeroValue 202).run P w=.ok (Value.int IntKind.u64 0) w
 tS:P.underlying (ztS z)=some (TypeDesc.slice (ztE z))
 aS:∀ w,(isAgg (ztS z)).run P w=.ok false w
 zS:∀ w,(Go.sizeOf (ztS z)).run P w=.ok 1 w
 vS:∀ w,(zeroValue (ztS z)).run P w=.ok (Value.slice none 0 0) w
 tF:P.underlying (ztF z)=some (TypeDesc.func #[(ztE z),(ztE z)] #[3] false)
 aF:∀ w,(isAgg (ztF z)).run P w=.ok false w
 zF:∀ w,(Go.sizeOf (ztF z)).run P w=.ok 1 w
 vF:∀ w,(zeroValue (ztF z)).run P w=.ok Value.nilFunc w
 aE:∀ w,(isAgg (ztE z)).run P w=.ok true w
 zE:∀ w,(Go.sizeOf (ztE z)).run P w=.ok k w
 fsw:P.funcs[zsw z]?=some (bsw z)
 frot:P.funcs[zrot z]?=some (brot z)
 fsym:P.funcs[zsym z]?=some (bsym z)
 fst:P.funcs[zst z]?=some (bst z)
 esw:∀ args w,(callFunc (zsw z) args).run P w=.ok (.enter (zsw z) args) w
 erot:∀ args w,(callFunc (zrot z) args).run P w=.ok (.enter (zrot z) args) w
 esym:∀ args w,(callFunc (zsym z) args).run P w=.ok (.enter (zsym z) args) w
 eins:∀ args w,(callFunc (zins z) args).run P w=.ok (.enter (zins z) args) w
theorem styO:StyZ false Tryz.prog 10:=
 ⟨by kernel_rfl,Tryz.underlying0,Tryz.isAgg0,Tryz.sizeOf0,Tryz.zeroValue0,Tryz.underlying3,Tryz.isAgg3,Tryz.sizeOf3,Tryz.zeroValue3,Tryz.underlying4,Tryz.isAgg4,Tryz.sizeOf4,Tryz.zeroValue4,
  Tryz.underlying202,Tryz.isAgg202,Tryz.sizeOf202,Tryz.zeroValue202,Tryz.underlying26,Tryz.isAgg26,Tryz.sizeOf26,Tryz.zeroValue26,Tryz.underlying262,Tryz.isAgg262,Tryz.sizeOf262,Tryz.zeroValue262,Tryz.isAgg74,Tryz.sizeOf74,
  Tryz.func196,Tryz.func189,Tryz.func172,Tryz.func149,
  enters_of Tryz.func196 (by kernel_rfl) rfl,enters_of Tryz.func189 (by kernel_rfl) rfl,enters_of Tryz.func172 (by kernel_rfl) rfl,enters_of Tryz.func171 (by kernel_rfl) rfl⟩
theorem styH:StyZ true Tryz.prog 11:=
 ⟨by kernel_rfl,Tryz.underlying0,Tryz.isAgg0,Tryz.sizeOf0,Tryz.zeroValue0,Tryz.underlying3,Tryz.isAgg3,Tryz.sizeOf3,Tryz.zeroValue3,Tryz.underlying4,Tryz.isAgg4,Tryz.sizeOf4,Tryz.zeroValue4,
  Tryz.underlying202,Tryz.isAgg202,Tryz.sizeOf202,Tryz.zeroValue202,Tryz.underlying177,Tryz.isAgg177,Tryz.sizeOf177,Tryz.zeroValue177,Tryz.underlying183,Tryz.isAgg183,Tryz.sizeOf183,Tryz.zeroValue183,Tryz.isAgg181,Tryz.sizeOf181,
  Tryz.func190,Tryz.func174,Tryz.func152,Tryz.func127,
  enters_of Tryz.func190 (by kernel_rfl) rfl,enters_of Tryz.func174 (by kernel_rfl) rfl,enters_of Tryz.func152 (by kernel_rfl) rfl,enters_of Tryz.func151 (by kernel_rfl) rfl⟩
section
variable {α:Type} [Inhabited α] {z:Bool} {P:Program} {k:Nat}
theorem z9a (L:StyZ z P k) (enc:α→List Value) (g:Nat) (cb:Array Value) (blk off cap a b n:Nat) (d0 d:Array α) (w0 w:World)
 (R:RowK enc k w0 blk off d0) (hs:d0.size=d.size) (S:SWK enc k w0 blk off d w) (ha:a+n≤b) (hb:b+n≤d.size) (hsz:d.size < 4611686018427387904):
 Calls P (zsw z) #[.slice (some ⟨blk,off,none⟩) d.size cap,.int .i64 a,.int .i64 b,.int .i64 n,.func (.func g) #[] cb] w fun e w'=>e=.returned (.tuple #[])∧SWK enc k w0 blk off (zaR d a b n) w':=by
 obtain ⟨mixed,t0,a0,z0,v0,t3,a3,z3,v3,t4,a4,z4,v4,tU,aU,zU,vU,tS,aS,zS,vS,tF,aF,zF,vF,aE,zE,fsw,frot,fsym,fst,esw,erot,esym,eins⟩:=L
 clear frot fsym fst esw erot esym eins
 have S0:Aside (SWK enc k w0 blk off d w):=S
 clear S
 cases z
 all_goals simp only [ztS,ztF,ztE,zsw,bsw] at tS aS zS vS tF aF zF vF aE zE fsw ⊢
 go_enter fsw,Tryz.ntmps196
 rotate_left
 go_enter fsw,Tryz.ntmps190
 all_goals
  go_wp2
  go_loopg [10] n (fun kx s10 wr=>∃ (i:Nat) (dk:Array α),s10=.int .i64 i∧i+kx=n∧dk.size=d.size∧Aside (SWK enc k w0 blk off dk wr)∧Hid (swLoop a b kx i dk=zaR d a b n))
  case atStart=>exact ⟨0,d,rfl,by omega,rfl,S0,rfl⟩
  case round=>
   clear S0
   obtain ⟨i,dk,rfl,hik,hds,S1,HE⟩:=hrel
   cases gk with
   | zero=>
     have hlt:¬ (i:Int) < (n:Int):=by omega
     go_wp2
     go_end0
     exact ⟨rfl,by rw [←HE.out];exact S1.out⟩
   | succ kx=>
     have hlt:(i:Int) < (n:Int):=by omega
     go_wp2_with fail
     have ea:((a:Int)+(i:Int)).toNat=a+i:=by omega
     have pa:(0:Int)≤(a:Int)+(i:Int):=by omega
     have ba:(a:Int)+(i:Int) < (d.size:Int):=by omega
     have ra:IntKind.i64.wrap ((a:Int)+(i:Int))=(a:Int)+(i:Int):=by rw [IntKind.wrap_i64];omega
     have ec:((b:Int)+(i:Int)).toNat=b+i:=by omega
     have pc:(0:Int)≤(b:Int)+(i:Int):=by omega
     have bc:(b:Int)+(i:Int) < (d.size:Int):=by omega
     have rc:IntKind.i64.wrap ((b:Int)+(i:Int))=(b:Int)+(i:Int):=by rw [IntKind.wrap_i64];omega
     have S2:Aside (SWK enc k w0 blk off (swp dk (a+i) (b+i)) ((wr.drew.setCells blk (off+(a+i)*k) (enc dk[b+i]!)).setCells blk (off+(b+i)*k) (enc dk[a+i]!))):=S1.out.swapped R (a+i) (b+i) (by omega) (by omega)
     have l1:=S1.out.ld1 R (by omega) P (a+i) (by omega)
     have l2:=S1.out.ld1 R (by omega) P (b+i) (by omega)
     have s1:=S1.out.st1 R (by omega) P (a+i) (by omega) dk[b+i]!
     have s2:=S1.out.st2 R (by omega) P (a+i) (b+i) (by omega) (by omega) dk[b+i]! dk[a+i]!
     have n1:(enc dk[a+i]!).length=k:=R.hk _
     have n2:(enc dk[b+i]!).length=k:=R.hk _
     generalize enc dk[a+i]! =cI at S2 l1 s2 n1
     generalize enc dk[b+i]! =cJ at S2 l2 s1 s2 n2
     clear S1
     go_wp2_with fail
     go_big_region_o
     clear l1 l2 s1 s2
     generalize (wr.drew.setCells blk (off+(a+i)*k) cJ).setCells blk (off+(b+i)*k) cI=w2 at S2 ⊢
     go_wp2
     go_roundg kx
     case measure=>omega
     case rel=>exact ⟨i+1,swp dk (a+i) (b+i),by go_num,by omega,by rw [size_swp];exact hds,S2,HE⟩
end
section
variable {α:Type} [Inhabited α] {z:Bool} {P:Program} {k:Nat}
theorem zTp (L:StyZ z P k) (enc:α→List Value) (g:Nat) (cb:Array Value) (blk off cap a m b:Nat) (d0 d:Array α) (w0 w:World)
 (R:RowK enc k w0 blk off d0) (hs:d0.size=d.size) (S:SWK enc k w0 blk off d w) (ha:a < m) (hm:m < b) (hb:b≤d.size) (hsz:d.size < 4611686018427387904):
 Calls P (zrot z) #[.slice (some ⟨blk,off,none⟩) d.size cap,.int .i64 a,.int .i64 m,.int .i64 b,.func (.func g) #[] cb] w fun e w'=>e=.returned (.tuple #[])∧SWK enc k w0 blk off (rot d a m b) w':=by
 have LL:Aside (StyZ _ P k):=L
 obtain ⟨mixed,t0,a0,z0,v0,t3,a3,z3,v3,t4,a4,z4,v4,tU,aU,zU,vU,tS,aS,zS,vS,tF,aF,zF,vF,aE,zE,fsw,frot,fsym,fst,esw,erot,esym,eins⟩:=L
 clear fsw fsym fst erot esym eins
 have S0:Aside (SWK enc k w0 blk off d w):=S
 clear S
 have RR:Aside (RowK enc k w0 blk off d0):=R
 clear R
 have ei:((m - a:Nat):Int)=(m:Int) - (a:Int):=by omega
 have ej:((b - m:Nat):Int)=(b:Int) - (m:Int):=by omega
 have EI:Hid _:=ei
 have EJ:Hid _:=ej
 clear ei ej
 cases z
 all_goals simp only [ztS,ztF,ztE,zsw,zrot,brot] at tS aS zS vS tF aF zF vF aE zE frot esw ⊢
 go_enter frot,Tryz.ntmps189
 rotate_left
 go_enter frot,Tryz.ntmps174
 all_goals
  go_wp2
  go_loopg [10,11] (b - a) (fun kx s10 s11 wr=>∃ (i j:Nat) (dk:Array α),s10=.int .i64 i∧s11=.int .i64 j∧0 < i∧0 < j∧i+j≤kx∧a+i≤m∧m+j≤b∧dk.size=d.size∧Aside (SWK enc k w0 blk off dk wr)∧Hid (rotLoop m kx i j dk=rot d a m b))
  case atStart=>exact ⟨m - a,b - m,d,by rw [EI.out],by rw [EJ.out],by omega,by omega,by omega,by omega,by omega,rfl,S0,rfl⟩
  case round=>
   clear S0 EI EJ
   obtain ⟨i,j,dk,rfl,rfl,hi0,hj0,hij,hai,hjb,hds,S1,HE⟩:=hrel
   obtain ⟨kx,rfl⟩:∃ kx,gk=kx+1:=⟨gk - 1,by omega⟩
   by_cases he:i=j
   · subst he
     have HE2:Hid (zaR dk (m - i) m i=rot d a m b):=by
      show _=_
      rw [←HE.out]
      show _=(if i=i then zaR dk (m - i) m i else _)
      rw [if_pos rfl]
     clear HE
     have hc:=z9a LL.out enc g cb blk off cap (m - i) m i d0 dk w0 wr RR.out (by omega) S1.out (by omega) (by omega) (by omega)
     rw [hds,show ((m - i:Nat):Int)=(m:Int) - (i:Int) by omega] at hc
     have hwr:IntKind.i64.wrap ((m:Int) - (i:Int))=(m:Int) - (i:Int):=by rw [IntKind.wrap_i64];omega
     clear S1
     go_wp2_with ((first | go_at_fn 196 | go_at_fn 190);refine hc.mono ?_;rintro e w1 ⟨rfl,S3⟩)
     go_end0
     exact ⟨rfl,by rw [←HE2.out];exact S3⟩
   · by_cases hlt:j < i
     · have HE2:Hid (rotLoop m kx (i - j) j (zaR dk (m - i) m j)=rot d a m b):=by
        show _=_
        rw [←HE.out]
        show _=(if i=j then _ else if j < i then rotLoop m kx (i - j) j (zaR dk (m - i) m j) else _)
        rw [if_neg he,if_pos hlt]
       clear HE
       have hne:¬ ((i:Int)=(j:Int)):=by omega
       have hz:(j:Int) < (i:Int):=by omega
       have hc:=z9a LL.out enc g cb blk off cap (m - i) m j d0 dk w0 wr RR.out (by omega) S1.out (by omega) (by omega) (by omega)
       rw [hds,show ((m - i:Nat):Int)=(m:Int) - (i:Int) by omega] at hc
       have hwr:IntKind.i64.wrap ((m:Int) - (i:Int))=(m:Int) - (i:Int):=by rw [IntKind.wrap_i64];omega
       have hwi:IntKind.i64.wrap ((i:Int) - (j:Int))=(i:Int) - (j:Int):=by rw [IntKind.wrap_i64];omega
       clear S1
       go_wp2_with ((first | go_at_fn 196 | go_at_fn 190);refine hc.mono ?_;rintro e w1 ⟨rfl,S3⟩)
       go_roundg kx
       case measure=>omega
       case rel=>exact ⟨i - j,j,zaR dk (m - i) m j,by congr 1;omega,rfl,by omega,by omega,by omega,by omega,by omega,by rw [z1k];exact hds,S3,HE2⟩
     · have HE2:Hid (rotLoop m kx i (j - i) (zaR dk (m - i) (m+j - i) i)=rot d a m b):=by
        show _=_
        rw [←HE.out]
        show _=(if i=j then _ else if j < i then _ else rotLoop m kx i (j - i) (zaR dk (m - i) (m+j - i) i))
        rw [if_neg he,if_neg hlt]
       clear HE
       have hne:¬ ((i:Int)=(j:Int)):=by omega
       have hz:¬ (j:Int) < (i:Int):=by omega
       have hc:=z9a LL.out enc g cb blk off cap (m - i) (m+j - i) i d0 dk w0 wr RR.out (by omega) S1.out (by omega) (by omega) (by omega)
       rw [hds,show ((m - i:Nat):Int)=(m:Int) - (i:Int) by omega,show ((m+j - i:Nat):Int)=(m:Int)+(j:Int) - (i:Int) by omega] at hc
       have hwr:IntKind.i64.wrap ((m:Int) - (i:Int))=(m:Int) - (i:Int):=by rw [IntKind.wrap_i64];omega
       have hwm:IntKind.i64.wrap ((m:Int)+(j:Int))=(m:Int)+(j:Int):=by rw [IntKind.wrap_i64];omega
       have hwn:IntKind.i64.wrap ((m:Int)+(j:Int) - (i:Int))=(m:Int)+(j:Int) - (i:Int):=by rw [IntKind.wrap_i64];omega
       have hwi:IntKind.i64.wrap ((j:Int) - (i:Int))=(j:Int) - (i:Int):=by rw [IntKind.wrap_i64];omega
       clear S1
       go_wp2_with ((first | go_at_fn 196 | go_at_fn 190);refine hc.mono ?_;rintro e w1 ⟨rfl,S3⟩)
       go_roundg kx
       case measure=>omega
       case rel=>exact ⟨i,j - i,zaR dk (m - i) (m+j - i) i,rfl,by congr 1;omega,by omega,by omega,by omega,by omega,by omega,by rw [z1k];exact hds,S3,HE2⟩
end
section
variable {α:Type} [Inhabited α] {z:Bool} {P:Program} {k:Nat}
theorem z6J (L:StyZ z P k) (enc:α→List Value) (cf:α→α→Int) (g:Nat) (cb:Array Value) (blk off cap a m b:Nat) (d0 d:Array α) (w0 w:World)
 (eg:∀ args w,(callFunc g args).run P w=.ok (.enter g args) w) (hcmp:CmpLays P g cb enc k cf blk off d0.size w0)
 (R:RowK enc k w0 blk off d0) (hs:d0.size=d.size) (S:SWK enc k w0 blk off d w) (ha:m - a=1) (hm:m < b) (hb:b≤d.size) (hsz:d.size < 4611686018427387904):
 Calls P (zsym z) #[.slice (some ⟨blk,off,none⟩) d.size cap,.int .i64 a,.int .i64 m,.int .i64 b,.func (.func g) #[] cb] w fun e w'=>e=.returned (.tuple #[])∧SWK enc k w0 blk off (upTo (half (fun h=>ltOf cf d[h]! d[a]!) (b - m+1) m b - 1) (b - a) a d) w':=by
 obtain ⟨mixed,t0,a0,z0,v0,t3,a3,z3,v3,t4,a4,z4,v4,tU,aU,zU,vU,tS,aS,zS,vS,tF,aF,zF,vF,aE,zE,fsw,frot,fsym,fst,esw,erot,esym,eins⟩:=L
 clear fsw frot fst erot esw esym eins
 have HC:Aside _:=hcmp
 clear hcmp
 have S0:Aside (SWK enc k w0 blk off d w):=S
 clear S
 have RR:Aside (RowK enc k w0 blk off d0):=R
 clear R
 obtain rfl:m=a+1:=by omega
 obtain ⟨H,hH⟩:∃ H,H=half (fun h=>ltOf cf d[h]! d[a]!) (b - (a+1)+1) (a+1) b:=⟨_,rfl⟩
 rw [←hH]
 have hHle:=zw6 (fun h=>ltOf cf d[h]! d[a]!) (b - (a+1)+1) (a+1) b (by omega)
 rw [←hH] at hHle
 have HH:Hid _:=hH
 clear hH ha
 have hw1:IntKind.i64.wrap ((a:Int)+1 - (a:Int))=1:=by rw [IntKind.wrap_i64];omega
 have hq1:((a:Int)+1 - (a:Int))=1:=by omega
 cases z
 all_goals simp only [ztS,ztF,ztE,zsym,bsym] at tS aS zS vS tF aF zF vF aE zE fsym ⊢
 go_enter fsym,Tryz.ntmps172
 rotate_left
 go_enter fsym,Tryz.ntmps152
 all_goals
  go_wp2
  go_loopg [10,11] (b - (a+1)+1) (fun kx s10 s11 wr=>∃ (i j:Nat),s10=.int .i64 i∧s11=.int .i64 j∧(a+1)≤i∧i≤j∧j≤b∧j - i+1≤kx∧Aside (SWK enc k w0 blk off d wr)∧Hid (half (fun h=>ltOf cf d[h]! d[a]!) kx i j=H))
  case atStart=>exact ⟨(a+1),b,by go_num,by go_num,Nat.le_refl _,by omega,Nat.le_refl _,by omega,S0,HH.out.symm⟩
  case round=>
   clear S0 HH
   obtain ⟨i,j,rfl,rfl,hai,hij,hjb,hkx,S1,HE⟩:=hrel
   obtain ⟨kx,rfl⟩:∃ kx,gk=kx+1:=⟨gk - 1,by omega⟩
   by_cases hlt:i < j
   · have hz:(i:Int) < (j:Int):=by omega
     obtain ⟨h,hh⟩:∃ h:Nat,h=(i+j) / 2:=⟨_,rfl⟩
     have HE2:Hid ((if ltOf cf d[h]! d[a]! then half (fun h=>ltOf cf d[h]! d[a]!) kx (h+1) j else half (fun h=>ltOf cf d[h]! d[a]!) kx i h)=H):=by
      show _=_
      rw [←HE.out,hh]
      show _=(if i < j then (if ltOf cf d[((i+j) / 2)]! d[a]! then half (fun h=>ltOf cf d[h]! d[a]!) kx ((i+j) / 2+1) j else half (fun h=>ltOf cf d[h]! d[a]!) kx i ((i+j) / 2)) else i)
      rw [if_pos hlt]
     clear HE
     have hdiv:((i:Int)+(j:Int)) / 2=(h:Int):=by omega
     have hb1:i≤h∧h < j:=by omega
     have hwa:IntKind.i64.wrap ((i:Int)+(j:Int))=(i:Int)+(j:Int):=by rw [IntKind.wrap_i64];omega
     have hwu:IntKind.u64.wrap ((i:Int)+(j:Int))=(i:Int)+(j:Int):=by rw [IntKind.wrap_u64];omega
     have hwh:IntKind.i64.wrap (h:Int)=(h:Int):=by rw [IntKind.wrap_i64];omega
     have hwv:IntKind.u64.wrap (h:Int)=(h:Int):=by rw [IntKind.wrap_u64];omega
     clear hh
     cases hlv:ltOf cf d[h]! d[a]! with
     | true=>
       have HE3:Hid (half (fun h=>ltOf cf d[h]! d[a]!) kx (h+1) j=H):=by
        have:=HE2.out
        rw [hlv] at this
        exact this
       clear HE2
       have ea1:((h:Int)).toNat=h:=by omega
       have pa1:(0:Int)≤(h:Int):=by omega
       have ba1:(h:Int) < (d.size:Int):=by omega
       have ra1:IntKind.i64.wrap ((h:Int))=(h:Int):=by rw [IntKind.wrap_i64];omega
       have ec1:((a:Int)).toNat=a:=by omega
       have pc1:(0:Int)≤(a:Int):=by omega
       have bc1:(a:Int) < (d.size:Int):=by omega
       have rc1:IntKind.i64.wrap ((a:Int))=(a:Int):=by rw [IntKind.wrap_i64];omega
       obtain ⟨x1,hx1⟩:∃ x,x=d[h]!:=⟨_,rfl⟩
       obtain ⟨y1,hy1⟩:∃ x,x=d[a]!:=⟨_,rfl⟩
       have la1:=S1.out.ld RR.out (by omega) P (h) (by omega)
       have lb1:=S1.out.ld RR.out (by omega) P (a) (by omega)
       rw [←hx1] at la1
       rw [←hy1] at lb1
       have hc1:=S1.out.cmp HC.out (by omega) x1 y1
       have hv1:cf x1 y1 < 0:=by rw [hx1,hy1];exact of_decide_eq_true hlv
       have hd1:decide (cf x1 y1 < 0)=true:=decide_eq_true hv1
       clear hx1 hy1
       go_wp2_with fail
       go_quiet_grown (first | (go_at_fn g;refine Calls.grown_of (hc1 _ _)))
       have S2:Aside (SWK enc k w0 blk off d (grow (wr.drewN nq) osq)):=S1.out.grown nq osq
       clear la1 lb1 hc1 S1 ea1 pa1 ba1 ra1 ec1 pc1 bc1 rc1
       generalize grow (wr.drewN nq) osq=wu1 at S2 ⊢
       clear nq osq
       go_wp2
       go_roundg kx
       case measure=>omega
       case rel=>exact ⟨h+1,j,by go_num,by go_num,by omega,by omega,by omega,by omega,S2,HE3⟩
     | false=>
       have HE3:Hid (half (fun h=>ltOf cf d[h]! d[a]!) kx i h=H):=by
        have:=HE2.out
        rw [hlv] at this
        exact this
       clear HE2
       have ea1:((h:Int)).toNat=h:=by omega
       have pa1:(0:Int)≤(h:Int):=by omega
       have ba1:(h:Int) < (d.size:Int):=by omega
       have ra1:IntKind.i64.wrap ((h:Int))=(h:Int):=by rw [IntKind.wrap_i64];omega
       have ec1:((a:Int)).toNat=a:=by omega
       have pc1:(0:Int)≤(a:Int):=by omega
       have bc1:(a:Int) < (d.size:Int):=by omega
       have rc1:IntKind.i64.wrap ((a:Int))=(a:Int):=by rw [IntKind.wrap_i64];omega
       obtain ⟨x1,hx1⟩:∃ x,x=d[h]!:=⟨_,rfl⟩
       obtain ⟨y1,hy1⟩:∃ x,x=d[a]!:=⟨_,rfl⟩
       have la1:=S1.out.ld RR.out (by omega) P (h) (by omega)
       have lb1:=S1.out.ld RR.out (by omega) P (a) (by omega)
       rw [←hx1] at la1
       rw [←hy1] at lb1
       have hc1:=S1.out.cmp HC.out (by omega) x1 y1
       have hv1:¬ cf x1 y1 < 0:=by rw [hx1,hy1];exact of_decide_eq_false hlv
       have hd1:decide (cf x1 y1 < 0)=false:=decide_eq_false hv1
       clear hx1 hy1
       go_wp2_with fail
       go_quiet_grown (first | (go_at_fn g;refine Calls.grown_of (hc1 _ _)))
       have S2:Aside (SWK enc k w0 blk off d (grow (wr.drewN nq) osq)):=S1.out.grown nq osq
       clear la1 lb1 hc1 S1 ea1 pa1 ba1 ra1 ec1 pc1 bc1 rc1
       generalize grow (wr.drewN nq) osq=wu1 at S2 ⊢
       clear nq osq
       go_wp2
       go_roundg kx
       case measure=>omega
       case rel=>exact ⟨i,h,by go_num,by go_num,by omega,by omega,by omega,by omega,S2,HE3⟩
   · have hz:¬ (i:Int) < (j:Int):=by omega
     obtain rfl:i=H:=by
      rw [←HE.out]
      show _=(if i < j then _ else i)
      rw [if_neg hlt]
     clear HE
     clear hij hjb hkx hai
     have hwi:IntKind.i64.wrap ((i:Int) - 1)=(i:Int) - 1:=by rw [IntKind.wrap_i64];omega
     go_wp2
     go_loopg [13] (b - a) (fun ky s13 wr2=>∃ (q:Nat) (dk:Array α),s13=.int .i64 q∧a≤q∧q≤i - 1∧i - 1 - q≤ky∧dk.size=d.size∧Aside (SWK enc k w0 blk off dk wr2)∧Hid (upTo (i - 1) ky q dk=upTo (i - 1) (b - a) a d))
     case atStart=>exact ⟨a,d,rfl,Nat.le_refl _,by omega,by omega,rfl,S1,rfl⟩
     case round=>
      clear S1
      obtain ⟨q,dk,rfl,haq,hqi,hky,hds,S1,HE⟩:=hrel
      by_cases hq:q < i - 1
      · obtain ⟨ky,rfl⟩:∃ ky,gk=ky+1:=⟨gk - 1,by omega⟩
        have HE2:Hid (upTo (i - 1) ky (q+1) (swp dk q (q+1))=upTo (i - 1) (b - a) a d):=by
         show _=_
         rw [←HE.out]
         show _=(if q < i - 1 then _ else dk)
         rw [if_pos hq]
        clear HE
        have hz2:(q:Int) < (i:Int) - 1:=by omega
        go_wp2_with fail
        have ea2:((q:Int)).toNat=q:=by omega
        have pa2:(0:Int)≤(q:Int):=by omega
        have ba2:(q:Int) < (d.size:Int):=by omega
        have ra2:IntKind.i64.wrap ((q:Int))=(q:Int):=by rw [IntKind.wrap_i64];omega
        have ec2:((q:Int)+1).toNat=q+1:=by omega
        have pc2:(0:Int)≤(q:Int)+1:=by omega
        have bc2:(q:Int)+1 < (d.size:Int):=by omega
        have rc2:IntKind.i64.wrap ((q:Int)+1)=(q:Int)+1:=by rw [IntKind.wrap_i64];omega
        have S2:Aside (SWK enc k w0 blk off (swp dk (q) (q+1)) ((wr.drew.setCells blk (off+(q)*k) (enc dk[q+1]!)).setCells blk (off+(q+1)*k) (enc dk[q]!))):=S1.out.swapped RR.out (q) (q+1) (by omega) (by omega)
        have l2a:=S1.out.ld1 RR.out (by omega) P (q) (by omega)
        have l2b:=S1.out.ld1 RR.out (by omega) P (q+1) (by omega)
        have s2a:=S1.out.st1 RR.out (by omega) P (q) (by omega) dk[q+1]!
        have s2b:=S1.out.st2 RR.out (by omega) P (q) (q+1) (by omega) (by omega) dk[q+1]! dk[q]!
        have n2a:(enc dk[q]!).length=k:=RR.out.hk _
        have n2b:(enc dk[q+1]!).length=k:=RR.out.hk _
        generalize enc dk[q]! =cI2 at S2 l2a s2b n2a
        generalize enc dk[q+1]! =cJ2 at S2 l2b s2a s2b n2b
        clear S1
        go_wp2_with fail
        go_big_region_o
        clear l2a l2b s2a s2b
        generalize (wr.drew.setCells blk (off+(q)*k) cJ2).setCells blk (off+(q+1)*k) cI2=wu2 at S2 ⊢
        go_wp2
        go_roundg ky
        case measure=>omega
        case rel=>exact ⟨q+1,swp dk q (q+1),by go_num,by omega,by omega,by omega,by rw [size_swp];exact hds,S2,HE2⟩
      · have HE2:dk=upTo (i - 1) (b - a) a d:=by
         rw [←HE.out]
         cases gk with
         | zero=>rfl
         | succ n=>show _=(if q < i - 1 then _ else dk);rw [if_neg hq]
        have HE3:Hid _:=HE2
        clear HE HE2
        have hz2:¬ (q:Int) < (i:Int) - 1:=by omega
        go_wp2
        (try simp only [Exit.inBlock,Exit.then])
        refine bodyPost_ret (results_none rfl _ _ _) rfl ?_
        exact ⟨rfl,by rw [←HE3.out];exact S1.out⟩
theorem zow (L:StyZ z P k) (enc:α→List Value) (cf:α→α→Int) (g:Nat) (cb:Array Value) (blk off cap a m b:Nat) (d0 d:Array α) (w0 w:World)
 (eg:∀ args w,(callFunc g args).run P w=.ok (.enter g args) w) (hcmp:CmpLays P g cb enc k cf blk off d0.size w0)
 (R:RowK enc k w0 blk off d0) (hs:d0.size=d.size) (S:SWK enc k w0 blk off d w) (hna:¬ m - a=1) (ham:a < m) (hm:b - m=1) (hb:b≤d.size) (hsz:d.size < 4611686018427387904):
 Calls P (zsym z) #[.slice (some ⟨blk,off,none⟩) d.size cap,.int .i64 a,.int .i64 m,.int .i64 b,.func (.func g) #[] cb] w fun e w'=>e=.returned (.tuple #[])∧SWK enc k w0 blk off (downTo (half (fun h=>!ltOf cf d[m]! d[h]!) (m - a+1) a m) (m - a) m d) w':=by
 obtain ⟨mixed,t0,a0,z0,v0,t3,a3,z3,v3,t4,a4,z4,v4,tU,aU,zU,vU,tS,aS,zS,vS,tF,aF,zF,vF,aE,zE,fsw,frot,fsym,fst,esw,erot,esym,eins⟩:=L
 clear fsw frot fst erot esw esym eins
 have HC:Aside _:=hcmp
 clear hcmp
 have S0:Aside (SWK enc k w0 blk off d w):=S
 clear S
 have RR:Aside (RowK enc k w0 blk off d0):=R
 clear R
 have hbm:b=m+1:=by omega
 obtain ⟨H,hH⟩:∃ H,H=half (fun h=>!ltOf cf d[m]! d[h]!) (m - a+1) a m:=⟨_,rfl⟩
 rw [←hH]
 have hHle:=zw6 (fun h=>!ltOf cf d[m]! d[h]!) (m - a+1) a m (by omega)
 rw [←hH] at hHle
 have HH:Hid _:=hH
 have HBM:Hid _:=hbm
 clear hH hm
 have hw1:IntKind.i64.wrap ((m:Int) - (a:Int))=(m:Int) - (a:Int):=by rw [IntKind.wrap_i64];omega
 have hq1:(((m:Int) - (a:Int)) == 1)=false:=by simp;omega
 have hw2:IntKind.i64.wrap ((b:Int) - (m:Int))=1:=by rw [IntKind.wrap_i64];omega
 have hq2:((b:Int) - (m:Int))=1:=by omega
 have hbd:m+1≤d.size:=by omega
 clear hbm
 cases z
 all_goals simp only [ztS,ztF,ztE,zsym,bsym] at tS aS zS vS tF aF zF vF aE zE fsym ⊢
 go_enter fsym,Tryz.ntmps172
 rotate_left
 go_enter fsym,Tryz.ntmps152
 all_goals
  go_wp2
  go_loopg [14,15] (m - a+1) (fun kx s10 s11 wr=>∃ (i j:Nat),s10=.int .i64 i∧s11=.int .i64 j∧a≤i∧i≤j∧j≤m∧j - i+1≤kx∧Aside (SWK enc k w0 blk off d wr)∧Hid (half (fun h=>!ltOf cf d[m]! d[h]!) kx i j=H))
  case atStart=>exact ⟨a,m,by go_num,by go_num,Nat.le_refl _,by omega,Nat.le_refl _,by omega,S0,HH.out.symm⟩
  case round=>
   clear S0 HH
   obtain ⟨i,j,rfl,rfl,hai,hij,hjb,hkx,S1,HE⟩:=hrel
   obtain ⟨kx,rfl⟩:∃ kx,gk=kx+1:=⟨gk - 1,by omega⟩
   by_cases hlt:i < j
   · have hz:(i:Int) < (j:Int):=by omega
     obtain ⟨h,hh⟩:∃ h:Nat,h=(i+j) / 2:=⟨_,rfl⟩
     have HE2:Hid ((if !ltOf cf d[m]! d[h]! then half (fun h=>!ltOf cf d[m]! d[h]!) kx (h+1) j else half (fun h=>!ltOf cf d[m]! d[h]!) kx i h)=H):=by
      show _=_
      rw [←HE.out,hh]
      show _=(if i < j then (if !ltOf cf d[m]! d[((i+j) / 2)]! then half (fun h=>!ltOf cf d[m]! d[h]!) kx ((i+j) / 2+1) j else half (fun h=>!ltOf cf d[m]! d[h]!) kx i ((i+j) / 2)) else i)
      rw [if_pos hlt]
     clear HE
     have hdiv:((i:Int)+(j:Int)) / 2=(h:Int):=by omega
     have hb1:i≤h∧h < j:=by omega
     have hwa:IntKind.i64.wrap ((i:Int)+(j:Int))=(i:Int)+(j:Int):=by rw [IntKind.wrap_i64];omega
     have hwu:IntKind.u64.wrap ((i:Int)+(j:Int))=(i:Int)+(j:Int):=by rw [IntKind.wrap_u64];omega
     have hwh:IntKind.i64.wrap (h:Int)=(h:Int):=by rw [IntKind.wrap_i64];omega
     have hwv:IntKind.u64.wrap (h:Int)=(h:Int):=by rw [IntKind.wrap_u64];omega
     clear hh
     cases hlv:ltOf cf d[m]! d[h]! with
     | true=>
       have HE3:Hid (half (fun h=>!ltOf cf d[m]! d[h]!) kx i h=H):=by
        have:=HE2.out
        rw [hlv] at this
        exact this
       clear HE2
       have ea1:((m:Int)).toNat=m:=by omega
       have pa1:(0:Int)≤(m:Int):=by omega
       have ba1:(m:Int) < (d.size:Int):=by omega
       have ra1:IntKind.i64.wrap ((m:Int))=(m:Int):=by rw [IntKind.wrap_i64];omega
       have ec1:((h:Int)).toNat=h:=by omega
       have pc1:(0:Int)≤(h:Int):=by omega
       have bc1:(h:Int) < (d.size:Int):=by omega
       have rc1:IntKind.i64.wrap ((h:Int))=(h:Int):=by rw [IntKind.wrap_i64];omega
       obtain ⟨x1,hx1⟩:∃ x,x=d[m]!:=⟨_,rfl⟩
       obtain ⟨y1,hy1⟩:∃ x,x=d[h]!:=⟨_,rfl⟩
       have la1:=S1.out.ld RR.out (by omega) P (m) (by omega)
       have lb1:=S1.out.ld RR.out (by omega) P (h) (by omega)
       rw [←hx1] at la1
       rw [←hy1] at lb1
       have hc1:=S1.out.cmp HC.out (by omega) x1 y1
       have hv1:cf x1 y1 < 0:=by rw [hx1,hy1];exact of_decide_eq_true hlv
       have hd1:decide (cf x1 y1 < 0)=true:=decide_eq_true hv1
       clear hx1 hy1
       go_wp2_with fail
       go_quiet_grown (first | (go_at_fn g;refine Calls.grown_of (hc1 _ _)))
       have S2:Aside (SWK enc k w0 blk off d (grow (wr.drewN nq) osq)):=S1.out.grown nq osq
       clear la1 lb1 hc1 S1 ea1 pa1 ba1 ra1 ec1 pc1 bc1 rc1
       generalize grow (wr.drewN nq) osq=wu1 at S2 ⊢
       clear nq osq
       go_wp2
       go_roundg kx
       case measure=>omega
       case rel=>exact ⟨i,h,by go_num,by go_num,by omega,by omega,by omega,by omega,S2,HE3⟩
     | false=>
       have HE3:Hid (half (fun h=>!ltOf cf d[m]! d[h]!) kx (h+1) j=H):=by
        have:=HE2.out
        rw [hlv] at this
        exact this
       clear HE2
       have ea1:((m:Int)).toNat=m:=by omega
       have pa1:(0:Int)≤(m:Int):=by omega
       have ba1:(m:Int) < (d.size:Int):=by omega
       have ra1:IntKind.i64.wrap ((m:Int))=(m:Int):=by rw [IntKind.wrap_i64];omega
       have ec1:((h:Int)).toNat=h:=by omega
       have pc1:(0:Int)≤(h:Int):=by omega
       have bc1:(h:Int) < (d.size:Int):=by omega
       have rc1:IntKind.i64.wrap ((h:Int))=(h:Int):=by rw [IntKind.wrap_i64];omega
       obtain ⟨x1,hx1⟩:∃ x,x=d[m]!:=⟨_,rfl⟩
       obtain ⟨y1,hy1⟩:∃ x,x=d[h]!:=⟨_,rfl⟩
       have la1:=S1.out.ld RR.out (by omega) P (m) (by omega)
       have lb1:=S1.out.ld RR.out (by omega) P (h) (by omega)
       rw [←hx1] at la1
       rw [←hy1] at lb1
       have hc1:=S1.out.cmp HC.out (by omega) x1 y1
       have hv1:¬ cf x1 y1 < 0:=by rw [hx1,hy1];exact of_decide_eq_false hlv
       have hd1:decide (cf x1 y1 < 0)=false:=decide_eq_false hv1
       clear hx1 hy1
       go_wp2_with fail
       go_quiet_grown (first | (go_at_fn g;refine Calls.grown_of (hc1 _ _)))
       have S2:Aside (SWK enc k w0 blk off d (grow (wr.drewN nq) osq)):=S1.out.grown nq osq
       clear la1 lb1 hc1 S1 ea1 pa1 ba1 ra1 ec1 pc1 bc1 rc1
       generalize grow (wr.drewN nq) osq=wu1 at S2 ⊢
       clear nq osq
       go_wp2
       go_roundg kx
       case measure=>omega
       case rel=>exact ⟨h+1,j,by go_num,by go_num,by omega,by omega,by omega,by omega,S2,HE3⟩
   · have hz:¬ (i:Int) < (j:Int):=by omega
     obtain rfl:i=H:=by
      rw [←HE.out]
      show _=(if i < j then _ else i)
      rw [if_neg hlt]
     clear HE
     clear hij hjb hkx
     go_wp2
     go_loopg [17] (m - a) (fun ky s17 wr2=>∃ (q:Nat) (dk:Array α),s17=.int .i64 q∧q≤m∧i≤q∧q - i≤ky∧dk.size=d.size∧Aside (SWK enc k w0 blk off dk wr2)∧Hid (downTo i ky q dk=downTo i (m - a) m d))
     case atStart=>exact ⟨m,d,rfl,Nat.le_refl _,by omega,by omega,rfl,S1,rfl⟩
     case round=>
      clear S1
      obtain ⟨q,dk,rfl,haq,hqi,hky,hds,S1,HE⟩:=hrel
      by_cases hq:i < q
      · obtain ⟨ky,rfl⟩:∃ ky,gk=ky+1:=⟨gk - 1,by omega⟩
        have HE2:Hid (downTo i ky (q - 1) (swp dk q (q - 1))=downTo i (m - a) m d):=by
         show _=_
         rw [←HE.out]
         show _=(if i < q then _ else dk)
         rw [if_pos hq]
        clear HE
        have hz2:(i:Int) < (q:Int):=by omega
        go_wp2_with fail
        have ea2:((q:Int)).toNat=q:=by omega
        have pa2:(0:Int)≤(q:Int):=by omega
        have ba2:(q:Int) < (d.size:Int):=by omega
        have ra2:IntKind.i64.wrap ((q:Int))=(q:Int):=by rw [IntKind.wrap_i64];omega
        have ec2:((q:Int) - 1).toNat=q - 1:=by omega
        have pc2:(0:Int)≤(q:Int) - 1:=by omega
        have bc2:(q:Int) - 1 < (d.size:Int):=by omega
        have rc2:IntKind.i64.wrap ((q:Int) - 1)=(q:Int) - 1:=by rw [IntKind.wrap_i64];omega
        have S2:Aside (SWK enc k w0 blk off (swp dk (q) (q - 1)) ((wr.drew.setCells blk (off+(q)*k) (enc dk[q - 1]!)).setCells blk (off+(q - 1)*k) (enc dk[q]!))):=S1.out.swapped RR.out (q) (q - 1) (by omega) (by omega)
        have l2a:=S1.out.ld1 RR.out (by omega) P (q) (by omega)
        have l2b:=S1.out.ld1 RR.out (by omega) P (q - 1) (by omega)
        have s2a:=S1.out.st1 RR.out (by omega) P (q) (by omega) dk[q - 1]!
        have s2b:=S1.out.st2 RR.out (by omega) P (q) (q - 1) (by omega) (by omega) dk[q - 1]! dk[q]!
        have n2a:(enc dk[q]!).length=k:=RR.out.hk _
        have n2b:(enc dk[q - 1]!).length=k:=RR.out.hk _
        generalize enc dk[q]! =cI2 at S2 l2a s2b n2a
        generalize enc dk[q - 1]! =cJ2 at S2 l2b s2a s2b n2b
        clear S1
        go_wp2_with fail
        go_big_region_o
        clear l2a l2b s2a s2b
        generalize (wr.drew.setCells blk (off+(q)*k) cJ2).setCells blk (off+(q - 1)*k) cI2=wu2 at S2 ⊢
        go_wp2
        go_roundg ky
        case measure=>omega
        case rel=>exact ⟨q - 1,swp dk q (q - 1),by congr 1;omega,by omega,by omega,by omega,by rw [size_swp];exact hds,S2,HE2⟩
      · have HE2:dk=downTo i (m - a) m d:=by
         rw [←HE.out]
         cases gk with
         | zero=>rfl
         | succ n=>show _=(if i < q then _ else dk);rw [if_neg hq]
        have HE3:Hid _:=HE2
        clear HE HE2
        have hz2:¬ (i:Int) < (q:Int):=by omega
        go_wp2
        (try simp only [Exit.inBlock,Exit.then])
        refine bodyPost_ret (results_none rfl _ _ _) rfl ?_
        exact ⟨rfl,by rw [←HE3.out];exact S1.out⟩
end
end Go.Proofs.YtbbkihekjdffpaaGreatDoor.srch
