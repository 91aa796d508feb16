/- Several texts in one. -/
import Derived.Test.YtlkidmafomjhgaaGreatDoorSrchPQ
import Derived.Deep.LoopGhost
import Derived.Sort.WalkB12
import Derived.Sort.WalkB2
set_option maxHeartbeats 4000000
set_option maxRecDepth 1000000
namespace Go.Proofs.YtlkidmafomjhgaaGreatDoor.srch
open Go.RowKit Go.Shelf
open Go.Sort (swp size_swp grow grow_grow grow_empty alloc_eq_grow size_grow)
def ztS (z:Bool):TypeId:=match z with | false=>23 | true=>167
def ztF (z:Bool):TypeId:=match z with | false=>234 | true=>172
def ztE (z:Bool):TypeId:=match z with | false=>48 | true=>171
def zsw (z:Bool):FuncId:=match z with | false=>179 | true=>173
def zrot (z:Bool):FuncId:=match z with | false=>172 | true=>159
def zsym (z:Bool):FuncId:=match z with | false=>157 | true=>139
def zst (z:Bool):FuncId:=match z with | false=>136 | true=>120
def zins (z:Bool):FuncId:=match z with | false=>156 | true=>138
noncomputable def bsw (z:Bool):Func:=match z with | false=>Tryz.f179 | true=>Tryz.f173
noncomputable def brot (z:Bool):Func:=match z with | false=>Tryz.f172 | true=>Tryz.f159
noncomputable def bsym (z:Bool):Func:=match z with | false=>Tryz.f157 | true=>Tryz.f139
noncomputable def bst (z:Bool):Func:=match z with | false=>Tryz.f136 | true=>Tryz.f120
structure StyZ (z:Bool) (P:Program) (k:Nat):Prop where
 mixed:P.follows .mixedOrders=true
 t0:P.underlying 0=some (TypeDesc.tuple #[])
 a0:∀ w,(isAgg 0).run P w=.ok false w
 z0:∀ w,(Go.sizeOf 0).run P w=.ok 1 w
 v0:∀ w,(zeroValue 0).run P w=.ok (Value.tuple #[]) w
 t3:P.underlying 3=some (TypeDesc.int IntKind.i64)
 a3:∀ w,(isAgg 3).run P w=.ok false w
 z3:∀ w,(Go.sizeOf 3).run P w=.ok 1 w
 v3:∀ w,(zeroValue 3).run P w=.ok (Value.int IntKind.i64 0) w
 t4:P.underlying 4=some (TypeDesc.bool)
 a4:∀ w,(isAgg 4).run P w=.ok false w
 z4:∀ w,(Go.sizeOf 4).run P w=.ok 1 w
 v4:∀ w,(zeroValue 4).run P w=.ok (Value.bool false) w
 tU:P.underlying 191=some (TypeDesc.int IntKind.u64)
 aU:∀ w,(isAgg 191).run P w=.ok false w
 zU:∀ w,(Go.sizeOf 191).run P w=.ok 1 w
 vU:∀ w,(zeroValue 191).run P w=.ok (Value.int IntKind.u64 0) w
 tS:P.underlying (ztS z)=some (TypeDesc.slice (ztE z))
 aS:∀ w,(isAgg (ztS z)).run P w=.ok false w
 zS:∀ w,(Go.sizeOf (ztS z)).run P w=.ok 1 w
 vS:∀ w,(zeroValue (ztS z)).run P w=.ok (Value.slice none 0 0) w
 tF:P.underlying (ztF z)=some (TypeDesc.func #[(ztE z),(ztE z)] #[3] false)
 aF:∀ w,(isAgg (ztF z)).run P w=.ok false w
 zF:∀ w,(Go.sizeOf (ztF z)).run P w=.ok 1 w
 vF:∀ w,(zeroValue (ztF z)).run P w=.ok Value.nilFunc w
 aE:∀ w,(isAgg (ztE z)).run P w=.ok true w
 zE:∀ w,(Go.sizeOf (ztE z)).run P w=.ok k w
 fsw:P.funcs[zsw z]?=some (bsw z)
 frot:P.funcs[zrot z]?=some (brot z)
 fsym:P.funcs[zsym z]?=some (bsym z)
 fst:P.funcs[zst z]?=some (bst z)
 esw:∀ args w,(callFunc (zsw z) args).run P w=.ok (.enter (zsw z) args) w
 erot:∀ args w,(callFunc (zrot z) args).run P w=.ok (.enter (zrot z) args) w
 esym:∀ args w,(callFunc (zsym z) args).run P w=.ok (.enter (zsym z) args) w
 eins:∀ args w,(callFunc (zins z) args).run P w=.ok (.enter (zins z) args) w
theorem styO:StyZ false Tryz.prog 10:=
 ⟨by kernel_rfl,Tryz.underlying0,Tryz.isAgg0,Tryz.sizeOf0,Tryz.zeroValue0,Tryz.underlying3,Tryz.isAgg3,Tryz.sizeOf3,Tryz.zeroValue3,Tryz.underlying4,Tryz.isAgg4,Tryz.sizeOf4,Tryz.zeroValue4,
  Tryz.underlying191,Tryz.isAgg191,Tryz.sizeOf191,Tryz.zeroValue191,Tryz.underlying23,Tryz.isAgg23,Tryz.sizeOf23,Tryz.zeroValue23,Tryz.underlying234,Tryz.isAgg234,Tryz.sizeOf234,Tryz.zeroValue234,Tryz.isAgg48,Tryz.sizeOf48,
  Tryz.func179,Tryz.func172,Tryz.func157,Tryz.func136,
  enters_of Tryz.func179 (by kernel_rfl) rfl,enters_of Tryz.func172 (by kernel_rfl) rfl,enters_of Tryz.func157 (by kernel_rfl) rfl,enters_of Tryz.func156 (by kernel_rfl) rfl⟩
theorem styH:StyZ true Tryz.prog 11:=
 ⟨by kernel_rfl,Tryz.underlying0,Tryz.isAgg0,Tryz.sizeOf0,Tryz.zeroValue0,Tryz.underlying3,Tryz.isAgg3,Tryz.sizeOf3,Tryz.zeroValue3,Tryz.underlying4,Tryz.isAgg4,Tryz.sizeOf4,Tryz.zeroValue4,
  Tryz.underlying191,Tryz.isAgg191,Tryz.sizeOf191,Tryz.zeroValue191,Tryz.underlying167,Tryz.isAgg167,Tryz.sizeOf167,Tryz.zeroValue167,Tryz.underlying172,Tryz.isAgg172,Tryz.sizeOf172,Tryz.zeroValue172,Tryz.isAgg171,Tryz.sizeOf171,
  Tryz.func173,Tryz.func159,Tryz.func139,Tryz.func120,
  enters_of Tryz.func173 (by kernel_rfl) rfl,enters_of Tryz.func159 (by kernel_rfl) rfl,enters_of Tryz.func139 (by kernel_rfl) rfl,enters_of Tryz.func138 (by kernel_rfl) rfl⟩
section
variable {α:Type} [Inhabited α] {z:Bool} {P:Program} {k:Nat}
theorem z3a (L:StyZ z P k) (enc:α→List Value) (g:Nat) (cb:Array Value) (blk off cap a b n:Nat) (d0 d:Array α) (w0 w:World)
 (R:RowK enc k w0 blk off d0) (hs:d0.size=d.size) (S:SWK enc k w0 blk off d w) (ha:a+n≤b) (hb:b+n≤d.size) (hsz:d.size < 4611686018427387904):
 Calls P (zsw z) #[.slice (some ⟨blk,off,none⟩) d.size cap,.int .i64 a,.int .i64 b,.int .i64 n,.func (.func g) #[] cb] w fun e w'=>e=.returned (.tuple #[])∧SWK enc k w0 blk off (zaR d a b n) w':=by
 obtain ⟨mixed,t0,a0,z0,v0,t3,a3,z3,v3,t4,a4,z4,v4,tU,aU,zU,vU,tS,aS,zS,vS,tF,aF,zF,vF,aE,zE,fsw,frot,fsym,fst,esw,erot,esym,eins⟩:=L
 clear frot fsym fst esw erot esym eins
 have S0:Aside (SWK enc k w0 blk off d w):=S
 clear S
 cases z
 all_goals simp only [ztS,ztF,ztE,zsw,bsw] at tS aS zS vS tF aF zF vF aE zE fsw ⊢
 go_enter fsw,Tryz.ntmps179
 rotate_left
 go_enter fsw,Tryz.ntmps173
 all_goals
  go_wp2
  go_loopg [10] n (fun kx s10 wr=>∃ (i:Nat) (dk:Array α),s10=.int .i64 i∧i+kx=n∧dk.size=d.size∧Aside (SWK enc k w0 blk off dk wr)∧Hid (swLoop a b kx i dk=zaR d a b n))
  case atStart=>exact ⟨0,d,rfl,by omega,rfl,S0,rfl⟩
  case round=>
   clear S0
   obtain ⟨i,dk,rfl,hik,hds,S1,HE⟩:=hrel
   cases gk with
   | zero=>
     have hlt:¬ (i:Int) < (n:Int):=by omega
     go_wp2
     go_end0
     exact ⟨rfl,by rw [←HE.out];exact S1.out⟩
   | succ kx=>
     have hlt:(i:Int) < (n:Int):=by omega
     go_wp2_with fail
     have ea:((a:Int)+(i:Int)).toNat=a+i:=by omega
     have pa:(0:Int)≤(a:Int)+(i:Int):=by omega
     have ba:(a:Int)+(i:Int) < (d.size:Int):=by omega
     have ra:IntKind.i64.wrap ((a:Int)+(i:Int))=(a:Int)+(i:Int):=by rw [IntKind.wrap_i64];omega
     have ec:((b:Int)+(i:Int)).toNat=b+i:=by omega
     have pc:(0:Int)≤(b:Int)+(i:Int):=by omega
     have bc:(b:Int)+(i:Int) < (d.size:Int):=by omega
     have rc:IntKind.i64.wrap ((b:Int)+(i:Int))=(b:Int)+(i:Int):=by rw [IntKind.wrap_i64];omega
     have S2:Aside (SWK enc k w0 blk off (swp dk (a+i) (b+i)) ((wr.drew.setCells blk (off+(a+i)*k) (enc dk[b+i]!)).setCells blk (off+(b+i)*k) (enc dk[a+i]!))):=S1.out.swapped R (a+i) (b+i) (by omega) (by omega)
     have l1:=S1.out.ld1 R (by omega) P (a+i) (by omega)
     have l2:=S1.out.ld1 R (by omega) P (b+i) (by omega)
     have s1:=S1.out.st1 R (by omega) P (a+i) (by omega) dk[b+i]!
     have s2:=S1.out.st2 R (by omega) P (a+i) (b+i) (by omega) (by omega) dk[b+i]! dk[a+i]!
     have n1:(enc dk[a+i]!).length=k:=R.hk _
     have n2:(enc dk[b+i]!).length=k:=R.hk _
     generalize enc dk[a+i]! =cI at S2 l1 s2 n1
     generalize enc dk[b+i]! =cJ at S2 l2 s1 s2 n2
     clear S1
     go_wp2_with fail
     go_big_region_o
     clear l1 l2 s1 s2
     generalize (wr.drew.setCells blk (off+(a+i)*k) cJ).setCells blk (off+(b+i)*k) cI=w2 at S2 ⊢
     go_wp2
     go_roundg kx
     case measure=>omega
     case rel=>exact ⟨i+1,swp dk (a+i) (b+i),by go_num,by omega,by rw [size_swp];exact hds,S2,HE⟩
end
section
variable {α:Type} [Inhabited α] {z:Bool} {P:Program} {k:Nat}
theorem zTp (L:StyZ z P k) (enc:α→List Value) (g:Nat) (cb:Array Value) (blk off cap a m b:Nat) (d0 d:Array α) (w0 w:World)
 (R:RowK enc k w0 blk off d0) (hs:d0.size=d.size) (S:SWK enc k w0 blk off d w) (ha:a < m) (hm:m < b) (hb:b≤d.size) (hsz:d.size < 4611686018427387904):
 Calls P (zrot z) #[.slice (some ⟨blk,off,none⟩) d.size cap,.int .i64 a,.int .i64 m,.int .i64 b,.func (.func g) #[] cb] w fun e w'=>e=.returned (.tuple #[])∧SWK enc k w0 blk off (rot d a m b) w':=by
 have LL:Aside (StyZ _ P k):=L
 obtain ⟨mixed,t0,a0,z0,v0,t3,a3,z3,v3,t4,a4,z4,v4,tU,aU,zU,vU,tS,aS,zS,vS,tF,aF,zF,vF,aE,zE,fsw,frot,fsym,fst,esw,erot,esym,eins⟩:=L
 clear fsw fsym fst erot esym eins
 have S0:Aside (SWK enc k w0 blk off d w):=S
 clear S
 have RR:Aside (RowK enc k w0 blk off d0):=R
 clear R
 have ei:((m - a:Nat):Int)=(m:Int) - (a:Int):=by omega
 have ej:((b - m:Nat):Int)=(b:Int) - (m:Int):=by omega
 have EI:Hid _:=ei
 have EJ:Hid _:=ej
 clear ei ej
 cases z
 all_goals simp only [ztS,ztF,ztE,zsw,zrot,brot] at tS aS zS vS tF aF zF vF aE zE frot esw ⊢
 go_enter frot,Tryz.ntmps172
 rotate_left
 go_enter frot,Tryz.ntmps159
 all_goals
  go_wp2
  go_loopg [10,11] (b - a) (fun kx s10 s11 wr=>∃ (i j:Nat) (dk:Array α),s10=.int .i64 i∧s11=.int .i64 j∧0 < i∧0 < j∧i+j≤kx∧a+i≤m∧m+j≤b∧dk.size=d.size∧Aside (SWK enc k w0 blk off dk wr)∧Hid (rotLoop m kx i j dk=rot d a m b))
  case atStart=>exact ⟨m - a,b - m,d,by rw [EI.out],by rw [EJ.out],by omega,by omega,by omega,by omega,by omega,rfl,S0,rfl⟩
  case round=>
   clear S0 EI EJ
   obtain ⟨i,j,dk,rfl,rfl,hi0,hj0,hij,hai,hjb,hds,S1,HE⟩:=hrel
   obtain ⟨kx,rfl⟩:∃ kx,gk=kx+1:=⟨gk - 1,by omega⟩
   by_cases he:i=j
   · subst he
     have HE2:Hid (zaR dk (m - i) m i=rot d a m b):=by
      show _=_
      rw [←HE.out]
      show _=(if i=i then zaR dk (m - i) m i else _)
      rw [if_pos rfl]
     clear HE
     have hc:=z3a LL.out enc g cb blk off cap (m - i) m i d0 dk w0 wr RR.out (by omega) S1.out (by omega) (by omega) (by omega)
     rw [hds,show ((m - i:Nat):Int)=(m:Int) - (i:Int) by omega] at hc
     have hwr:IntKind.i64.wrap ((m:Int) - (i:Int))=(m:Int) - (i:Int):=by rw [IntKind.wrap_i64];omega
     clear S1
     go_wp2_with ((first | go_at_fn 179 | go_at_fn 173);refine hc.mono ?_;rintro e w1 ⟨rfl,S3⟩)
     go_end0
     exact ⟨rfl,by rw [←HE2.out];exact S3⟩
   · by_cases hlt:j < i
     · have HE2:Hid (rotLoop m kx (i - j) j (zaR dk (m - i) m j)=rot d a m b):=by
        show _=_
        rw [←HE.out]
        show _=(if i=j then _ else if j < i then rotLoop m kx (i - j) j (zaR dk (m - i) m j) else _)
        rw [if_neg he,if_pos hlt]
       clear HE
       have hne:¬ ((i:Int)=(j:Int)):=by omega
       have hz:(j:Int) < (i:Int):=by omega
       have hc:=z3a LL.out enc g cb blk off cap (m - i) m j d0 dk w0 wr RR.out (by omega) S1.out (by omega) (by omega) (by omega)
       rw [hds,show ((m - i:Nat):Int)=(m:Int) - (i:Int) by omega] at hc
       have hwr:IntKind.i64.wrap ((m:Int) - (i:Int))=(m:Int) - (i:Int):=by rw [IntKind.wrap_i64];omega
       have hwi:IntKind.i64.wrap ((i:Int) - (j:Int))=(i:Int) - (j:Int):=by rw [IntKind.wrap_i64];omega
       clear S1
       go_wp2_with ((first | go_at_fn 179 | go_at_fn 173);refine hc.mono ?_;rintro e w1 ⟨rfl,S3⟩)
       go_roundg kx
       case measure=>omega
       case rel=>exact ⟨i - j,j,zaR dk (m - i) m j,by congr 1;omega,rfl,by omega,by omega,by omega,by omega,by omega,by rw [z1k];exact hds,S3,HE2⟩
     · have HE2:Hid (rotLoop m kx i (j - i) (zaR dk (m - i) (m+j - i) i)=rot d a m b):=by
        show _=_
        rw [←HE.out]
        show _=(if i=j then _ else if j < i then _ else rotLoop m kx i (j - i) (zaR dk (m - i) (m+j - i) i))
        rw [if_neg he,if_neg hlt]
       clear HE
       have hne:¬ ((i:Int)=(j:Int)):=by omega
       have hz:¬ (j:Int) < (i:Int):=by omega
       have hc:=z3a LL.out enc g cb blk off cap (m - i) (m+j - i) i d0 dk w0 wr RR.out (by omega) S1.out (by omega) (by omega) (by omega)
       rw [hds,show ((m - i:Nat):Int)=(m:Int) - (i:Int) by omega,show ((m+j - i:Nat):Int)=(m:Int)+(j:Int) - (i:Int) by omega] at hc
       have hwr:IntKind.i64.wrap ((m:Int) - (i:Int))=(m:Int) - (i:Int):=by rw [IntKind.wrap_i64];omega
       have hwm:IntKind.i64.wrap ((m:Int)+(j:Int))=(m:Int)+(j:Int):=by rw [IntKind.wrap_i64];omega
       have hwn:IntKind.i64.wrap ((m:Int)+(j:Int) - (i:Int))=(m:Int)+(j:Int) - (i:Int):=by rw [IntKind.wrap_i64];omega
       have hwi:IntKind.i64.wrap ((j:Int) - (i:Int))=(j:Int) - (i:Int):=by rw [IntKind.wrap_i64];omega
       clear S1
       go_wp2_with ((first | go_at_fn 179 | go_at_fn 173);refine hc.mono ?_;rintro e w1 ⟨rfl,S3⟩)
       go_roundg kx
       case measure=>omega
       case rel=>exact ⟨i,j - i,zaR dk (m - i) (m+j - i) i,rfl,by congr 1;omega,by omega,by omega,by omega,by omega,by omega,by rw [z1k];exact hds,S3,HE2⟩
end
end Go.Proofs.YtlkidmafomjhgaaGreatDoor.srch
