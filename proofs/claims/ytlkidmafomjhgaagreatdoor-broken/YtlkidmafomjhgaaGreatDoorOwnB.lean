/- Broken: whatever the raw numbers, of a history in which nothing overlaps, with one value turned into another, just that is told, byte for byte: the part, and all operations of it that were ahead; with none turned it is OK, and so is the empty history. Conditions: the listed package-level variables hold what the program's text lays in them. -/
import Derived.Test.YtlkidmafomjhgaaGreatDoorCards
import Derived.Test.YtlkidmafomjhgaaGreatDoorKeepXk
import Derived.Test.YtlkidmafomjhgaaGreatDoorTie
import Derived.Test.YtlkidmafomjhgaaGreatDoorVarsX
import Derived.Carry
import Derived.Deep.DeepHandedRow
import Derived.Deep.DeepWitnessRowRef
import Derived.ProofKit
set_option maxRecDepth 100000
namespace Go.Proofs.YtlkidmafomjhgaaGreatDoor.broken
open Go.ChangeShapes Go.WideShapes Go.ChangeAt Go.RowKit Go.Lib Go.Proofs.YtlkidmafomjhgaaGreatDoor.keep

theorem own:ownKnob Tryz.prog.godebug=none:=by kernel_rfl
theorem laidOut:laidOutB Tryz.prog=true:=by kernel_rfl
theorem zfD:Tryz.prog.cellsOf 3=1:=by kernel_rfl
theorem zpv:(Rows.brokenRow.laid.all fun x=>x.2.handleName?.isNone)=true:=by kernel_rfl

/-- the raw numbers, as the walk wants them -/
theorem zra {H:Type} {enc:TypeId×Value→H} {W:World} {base:Nat} {v:Value} {d:DataW H} {p:List MemPlace} (hval:Value.okWide Tryz.prog W .any base 22 v) (h:DataW.Trod enc Tryz.prog W 0 (fun _=>true) true 22 v d p):
 ∃ code:List Int,(∃ oa cap,v=.slice oa code.length cap∧(code≠[]→∃ g off,oa=some ⟨g,off,none⟩∧g < W.heap.size∧∀ j x,code[j]?=some x→W.cell? ⟨g,off+j,none⟩=some (.int .i64 x)))∧code.length≤9223372036854775807∧∀ x∈code,zRK x:=by
 obtain ⟨a0,len,cap,rfl⟩:=okWide_slice Tryz.underlying22 hval
 obtain ⟨fuel,hf⟩:=h
 rcases open_ints Tryz.underlying22 Tryz.underlying3 zfD hf with ⟨hcs,hx⟩ | ⟨a,len',cap',zs,hcs,_,hl,hm,hz,hx,hcell,hwz⟩
 · simp [Value.cells] at hcs
   obtain ⟨rfl,rfl,rfl⟩:=hcs
   exact ⟨[],⟨none,0,rfl,fun h=>absurd rfl h⟩,by simp,by simp⟩
 · simp [Value.cells] at hcs
   obtain ⟨rfl,rfl,rfl⟩:=hcs
   simp only [if_true] at hz
   have hl1:(zs.take len).length=len:=by rw [List.length_take];omega
   refine ⟨zs.take len,⟨some a,cap,by rw [hl1],fun hne=>?_⟩,by rw [hl1];unfold maxLen at hm;omega,fun x hx=>?_⟩
   · have hpos:0 < zs.length:=by
      apply Nat.pos_of_ne_zero
      intro h0
      apply hne
      rw [List.length_eq_zero_iff.1 h0];simp
     obtain ⟨b,off,rfl,hc⟩:=ints_at hcell hpos
     have hlb:b < W.heap.size:=by
      apply Decidable.byContradiction
      intro hn
      have e:W.heap[b]?=Option.none:=Array.getElem?_eq_none (by omega)
      have h0:=hc 0 hpos
      simp [World.cell?,e] at h0
     refine ⟨b,off,rfl,hlb,fun j x hj=>?_⟩
     rw [List.getElem?_take] at hj
     split at hj
     · have hjl:=(List.getElem?_eq_some_iff.1 hj).1
       rw [hc j hjl,List.getD,hj];rfl
     · cases hj
   · exact bounds_i64 (hwz x (List.mem_of_mem_take hx))

theorem zPu (H:Type) (enc:TypeId×Value→H) (W:World) (base:Nat) (args:Array Value) (ds gs:List (DataW H)) (before:List MemPlace)
 (hval:∀ (j:Nat) t v,Tryz.f6.params[j]?=some t→args[j]?=some v→Value.okWide Tryz.prog W .any base t v)
 (hW:DataW.Whole enc Tryz.prog Tryz.f6.params.toList Rows.brokenSpec.vars false W args.toList ds gs before) (hL:laidMetH Tryz.prog Rows.brokenRow.laid W) (hS:W.ShapedOpen Tryz.prog):
 Calls Tryz.prog 6 args W fun e W'=>∃ v,e=.returned v∧Rows.brokenSpec.post enc Tryz.prog Tryz.f6 false true false false W args v W':=by
 have hW':=hW
 have hlt:=hW.lt
 obtain ⟨p,q,hA0,hV,rfl,hfz,hnd⟩:=hW
 have hA:DataW.TrodAll enc Tryz.prog W 0 (fun _=>true) true Tryz.f6.params.toList args.toList ds p:=hA0
 rw [Tryz.params6] at hA hval
 obtain ⟨v0,vs0,d0,ds0,p0,q0,hargs,rfl,rfl,h0,r0⟩:=trodAll_cons hA
 obtain ⟨v1,vs1,d1,ds1,p1,q1,rfl,rfl,rfl,h1,r1⟩:=trodAll_cons r0
 obtain ⟨v2,vs2,d2,ds2,p2,q2,rfl,rfl,rfl,h2,r2⟩:=trodAll_cons r1
 obtain ⟨rfl,rfl,rfl⟩:=trodAll_nil r2
 obtain rfl:args=#[v0,v1,v2]:=by cases args;simp_all
 obtain ⟨rfl,rfl⟩:=trodVars_none hV
 have h1k:=h1
 obtain ⟨which,rfl,rfl,rfl,hwf⟩:=open_int Tryz.underlying3 (hval 0 3 v0 rfl rfl) h0
 obtain ⟨n,rfl,rfl,rfl,hnf⟩:=open_int Tryz.underlying3 (hval 2 3 v2 rfl rfl) h2
 have hlt1:∀ x∈p1,x.block < W.heap.size:=fun x hx=>hlt x (by simp [hx])
 obtain ⟨code,hrow,hlen,hcwf⟩:=zra (hval 1 22 v1 rfl rfl) h1
 clear hA0
 simp only [List.append_nil,List.nil_append] at hW'
 rw [MakeChecks.laidMetH_plain _ _ _ zpv] at hL
 have hg:Glob W:=zTD hS (laidMet.reads hL (by simp [Rows.brokenRow])) (laidMet.reads hL (by simp [Rows.brokenRow])) (laidMet.reads hL (by simp [Rows.brokenRow])) (laidMet.reads hL (by simp [Rows.brokenRow])) (laidMet.reads hL (by simp [Rows.brokenRow]))
 have hp:srch.Pow W:=zRO (laidMet.reads hL (by simp [Rows.brokenRow]))
 have hw64:zRK which:=bounds_i64 hwf
 refine (zmT which hw64 v1 code n (bounds_i64 hnf) W hg hp hrow hlen hcwf).mono fun e W' ⟨hb,he⟩=>?_
 subst he
 have e1:Rows.brokenSpec.fn H ([.lit (.int .i64 which),d1,.lit (.int .i64 n)]++[])={ results:=[.lit (.bool true)],args:=[.lit (.int .i64 which),d1,.lit (.int .i64 n)] }:=rfl
 refine ⟨_,rfl,_,_,_,[],p1,[],hW',?_,?_,?_,hb.frame _,fun h=>by cases h⟩
 · rw [e1];exact trodAll_cons_mk (shut_bool Tryz.underlying4 _) trodAll_mk0
 · rw [e1]
   have t1:DataW.TrodAll enc Tryz.prog W' 0 (fun b=>decide (b < W.heap.size)) true [3,22,3] [.int .i64 which,v1,.int .i64 n] [.lit (.int .i64 which),d1,.lit (.int .i64 n)] ([]++(p1++([]++[]))):=trodAll_cons_mk (shut_int Tryz.underlying3 hwf) (trodAll_cons_mk (Below.trod laidOut (by kernel_rfl) (of_decide_eq_true (by kernel_rfl)) h1k hb hlt1) (trodAll_cons_mk (shut_int Tryz.underlying3 hnf) trodAll_mk0))
   simpa using t1
 · rw [e1];rfl

/-- A world for the witness: the listed variables hold what is listed. -/
theorem z7w (os:Os) (args:Array Value):laidMetH Tryz.prog Rows.brokenRow.laid ((World.laidAll Tryz.prog os Rows.brokenRow.laid).forCall (fun _ _=>0) ⟨#[],args,[]⟩).memory:=by
 rw [MakeChecks.laidMetH_plain _ _ _ zpv]
 exact laidMet_laidAll _ (by kernel_rfl) (by kernel_rfl)
theorem ztM (os:Os) {H:Type} (enc:TypeId×Value→H):∃ places,DataW.whole enc Tryz.prog ((World.laidAll Tryz.prog os Rows.brokenRow.laid).forCall (fun _ _=>0) ⟨#[],#[.int .i64 0,.slice none 0 0,.int .i64 0],[]⟩).memory Tryz.f6.params.toList Rows.brokenSpec.vars false #[Value.int .i64 0,.slice none 0 0,.int .i64 0].toList 8=some ([.lit (.int .i64 0),.nil,.lit (.int .i64 0)],[],places):=
 ⟨[],by kernel_rfl⟩

theorem zQs (os:Os) (started:os.Started) (H:Type) (enc:TypeId×Value→H) (F:Stop.Interp):
 ReturnsInHanded {} Tryz.checked os 6 .any ((OpenSpec.ofChange Rows.brokenSpec).preRow enc Tryz.prog Tryz.f6 Rows.brokenRow.domain false Rows.brokenRow.laid) (((OpenSpec.ofChange Rows.brokenSpec).at F).post enc Tryz.prog Tryz.f6 false true false false):=by
 obtain ⟨places,hx⟩:=ztM os enc
 refine returnsInHanded_of_row (C:=Tryz.checked) (s:=OpenSpec.ofChange Rows.brokenSpec) own started (by kernel_rfl) Tryz.func6
  (witness_row_atRef (enc:=enc) (C:=Tryz.checked) false (World.laidAll Tryz.prog os Rows.brokenRow.laid) #[.int .i64 0,.slice none 0 0,.int .i64 0] (World.laidAll_os _ _ _) (by kernel_rfl) (by kernel_rfl) (by kernel_rfl)
   (OpenSpec.preRow_of_cond 8 hx (by kernel_rfl) (fun k hk=>by cases hk) (by kernel_rfl) (z7w os _))) ?_
 intro W base args ds gs before hval hW _ _ _ hL hS _
 exact zPu H enc W base args ds gs before hval hW hL hS

theorem said:Rows.BrokenSaid:=
 OpenClaim.holds_of_cond 6 Tryz.f6 rfl rfl rfl rfl rfl rfl rfl ⟨rfl,rfl,rfl,rfl,rfl⟩ rfl rfl rfl rfl rfl (by kernel_rfl) Tryz.func6 (by kernel_rfl)
  (of_decide_eq_true (by kernel_rfl)) (by unfold Func.isWrapper;first | (rw [if_pos (by decide +kernel)];kernel_rfl) | (rw [if_neg (by decide +kernel)];exact ⟨rfl,rfl⟩))
  (fun os started H enc _ F=>by rw [OpenClaim.pre_eq_preRow];exact zQs os started H enc F)

theorem zC4c (f:FuncId) (fn:Func) (hf:Tryz.pinned.checked.prog.funcNamed "linear/linearkeep.Broken"=some f) (hfn:Tryz.pinned.checked.prog.funcs[f]?=some fn):
 true=Tryz.pinned.checked.prog.looks []∧∀ (j:Nat) t,fn.params[j]?=some t→Tryz.pinned.checked.prog.wantsStandIn t=false:=by
 obtain rfl:f=6:=Option.some.inj ((show Tryz.prog.funcNamed "linear/linearkeep.Broken"=some 6 by kernel_rfl).symm.trans hf) |>.symm
 obtain rfl:fn=Tryz.f6:=(Option.some.inj (Tryz.func6.symm.trans hfn)).symm
 refine ⟨by kernel_rfl,fun j t ht=>?_⟩
 rw [Tryz.params6] at ht
 obtain rfl | rfl:t=3∨t=22:=by have h:=Array.mem_of_getElem? ht;simp at h;rcases h with h | h | h <;> simp [h]
 · exact (show Tryz.prog.wantsStandIn 3=false by kernel_rfl)
 · exact (show Tryz.prog.wantsStandIn 22=false by kernel_rfl)

/-- THE CARD -/
theorem card:Rows.BrokenCardSaid:=
 Claim7.holds_tied_plain_at .later [] _ _ _ _ said (fun _ h=>by cases h) (by kernel_rfl) (fun _ h=>by cases h) broken_row_tie rfl ⟨rfl,rfl⟩ (by kernel_rfl) rfl zC4c (by kernel_rfl)
end Go.Proofs.YtlkidmafomjhgaaGreatDoor.broken
namespace Go.Proofs.YtlkidmafomjhgaaGreatDoor
/-- BROKEN, the first form's card. -/
theorem broken_holds:Rows.BrokenCardSaid:=broken.card
end Go.Proofs.YtlkidmafomjhgaaGreatDoor
