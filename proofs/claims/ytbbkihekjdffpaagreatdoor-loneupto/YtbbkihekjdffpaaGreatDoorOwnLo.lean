/- Lone: of every history of a model without keys, Run says nothing but what the reference allows: for all texts of bulk at most 1048576, whatever the model and the budget. Conditions: the listed package-level variables hold what the program's text lays in them; the second form's bound. -/
import Derived.Test.YtbbkihekjdffpaaGreatDoorCards
import Derived.Test.YtbbkihekjdffpaaGreatDoorJdPd
import Derived.Test.YtbbkihekjdffpaaGreatDoorTie
import Derived.Carry
import Derived.Deep.DeepHandedRow
import Derived.Deep.DeepWitnessRowRef
import Derived.ProofKit
namespace Go.Proofs.YtbbkihekjdffpaaGreatDoor.lone
open Go.ChangeShapes Go.WideShapes Go.ChangeAt Go.RowKit Go.Lib Go.Proofs.YtbbkihekjdffpaaGreatDoor.srch
open Go.ChangeMaps (open_string shut_string)

theorem own:ownKnob Tryz.prog.godebug=none:=by kernel_rfl
theorem zpv:(Rows.loneUptoRow.laid.all fun x=>x.2.handleName?.isNone)=true:=by kernel_rfl

/-- What the bound gives. -/
theorem zbb {H:Type} {d1 d2:DataW H} {s:ByteArray} (hk:Rows.uptoSmall H [.lit (.string s.data.toList),d1,d2]=true):s.data.toList.length≤1048576:=by
 have h:Rows.uptoBulkAll [DataW.lit (H:=H) (.string s.data.toList),d1,d2]≤1048576:=of_decide_eq_true hk
 simp only [Rows.uptoBulkAll,Rows.uptoBulk] at h
 omega

set_option maxRecDepth 100000 in
theorem zPu (H:Type) (enc:TypeId×Value→H) (W:World) (base:Nat) (args:Array Value) (ds gs:List (DataW H)) (before:List MemPlace)
 (hval:∀ (j:Nat) t v,Tryz.f3.params[j]?=some t→args[j]?=some v→Value.okWide Tryz.prog W .any base t v)
 (hW:DataW.Whole enc Tryz.prog Tryz.f3.params.toList Rows.loneSpec.vars false W args.toList ds gs before) (hL:laidMetH Tryz.prog Rows.loneUptoRow.laid W) (hS:W.ShapedOpen Tryz.prog) (hk:Rows.uptoSmall H (ds++gs)=true):
 Calls Tryz.prog 3 args W fun e W'=>∃ v,e=.returned v∧Rows.loneSpec.post enc Tryz.prog Tryz.f3 false true false false W args v W':=by
 have hW':=hW
 obtain ⟨p,q,hA0,hV,rfl,hfz,hnd⟩:=hW
 have hA:DataW.TrodAll enc Tryz.prog W 0 (fun _=>true) true Tryz.f3.params.toList args.toList ds p:=hA0
 rw [Tryz.params3] at hA hval
 obtain ⟨v0,vs0,d0,ds0,p0,q0,hargs,rfl,rfl,h0,r0⟩:=trodAll_cons hA
 obtain ⟨v1,vs1,d1,ds1,p1,q1,rfl,rfl,rfl,h1,r1⟩:=trodAll_cons r0
 obtain ⟨v2,vs2,d2,ds2,p2,q2,rfl,rfl,rfl,h2,r2⟩:=trodAll_cons r1
 obtain ⟨rfl,rfl,rfl⟩:=trodAll_nil r2
 obtain rfl:args=#[v0,v1,v2]:=by cases args;simp_all
 obtain ⟨rfl,rfl⟩:=trodVars_none hV
 obtain ⟨s,rfl,rfl,rfl,hmax⟩:=open_string Tryz.underlying9 (hval 0 9 v0 rfl rfl) h0
 obtain ⟨c,rfl,rfl,rfl,hc⟩:=open_int Tryz.underlying3 (hval 1 3 v1 rfl rfl) h1
 obtain ⟨b,rfl,rfl,rfl,hbu⟩:=open_int Tryz.underlying3 (hval 2 3 v2 rfl rfl) h2
 clear hA0
 simp only [List.append_nil] at hW' hk
 have hsh:=zbb hk
 rw [MakeChecks.laidMetH_plain _ _ _ zpv] at hL
 have hg:Glob W:=zTD hS (laidMet.reads hL (by simp [Rows.loneUptoRow])) (laidMet.reads hL (by simp [Rows.loneUptoRow])) (laidMet.reads hL (by simp [Rows.loneUptoRow])) (laidMet.reads hL (by simp [Rows.loneUptoRow])) (laidMet.reads hL (by simp [Rows.loneUptoRow]))
 have hp:Pow W:=zRO (laidMet.reads hL (by simp [Rows.loneUptoRow]))
 have hm:Mods W:=zh1 (laidMet.reads hL (by simp [Rows.loneUptoRow]))
 refine (jd.lone_walk s.data.toList c b (bounds_i64 hbu) (fun m hm=>jd.fit_all s.data.toList m hm b) W hg hp hm (by omega)).mono fun e W' ⟨hb,he⟩=>?_
 subst he
 have e1:Rows.loneSpec.fn H ([.lit (.string s.data.toList),.lit (.int .i64 c),.lit (.int .i64 b)]++[])={ results:=[.lit (.bool true)],args:=[.lit (.string s.data.toList),.lit (.int .i64 c),.lit (.int .i64 b)] }:=rfl
 refine ⟨_,rfl,_,_,_,[],[],[],hW',?_,?_,?_,hb.frame _,fun h=>by cases h⟩
 · rw [e1];exact trodAll_cons_mk (shut_bool Tryz.underlying4 _) trodAll_mk0
 · rw [e1];exact trodAll_cons_mk (shut_string Tryz.underlying9 hmax) (trodAll_cons_mk (shut_int Tryz.underlying3 hc) (trodAll_cons_mk (shut_int Tryz.underlying3 hbu) trodAll_mk0))
 · rw [e1];rfl

/-- A world for the witness: the listed variables hold what is listed. -/
theorem z7w (os:Os) (args:Array Value):laidMetH Tryz.prog Rows.loneUptoRow.laid ((World.laidAll Tryz.prog os Rows.loneUptoRow.laid).forCall (fun _ _=>0) ⟨#[],args,[]⟩).memory:=by
 rw [MakeChecks.laidMetH_plain _ _ _ zpv]
 exact laidMet_laidAll _ (by kernel_rfl) (by kernel_rfl)
theorem ztM (os:Os) {H:Type} (enc:TypeId×Value→H):∃ places,DataW.whole enc Tryz.prog ((World.laidAll Tryz.prog os Rows.loneUptoRow.laid).forCall (fun _ _=>0) ⟨#[],#[.string ⟨#[]⟩,.int .i64 0,.int .i64 0],[]⟩).memory Tryz.f3.params.toList Rows.loneSpec.vars false #[Value.string ⟨#[]⟩,.int .i64 0,.int .i64 0].toList 8=some ([.lit (.string []),.lit (.int .i64 0),.lit (.int .i64 0)],[],places):=
 ⟨[],by kernel_rfl⟩

set_option maxRecDepth 100000 in
theorem zQs (os:Os) (started:os.Started) (H:Type) (enc:TypeId×Value→H) (F:Stop.Interp):
 ReturnsInHanded {} Tryz.checked os 3 .any ((Rows.OpenSpec.upto Rows.loneSpec).preRow enc Tryz.prog Tryz.f3 Rows.loneUptoRow.domain false Rows.loneUptoRow.laid) (((Rows.OpenSpec.upto Rows.loneSpec).at F).post enc Tryz.prog Tryz.f3 false true false false):=by
 obtain ⟨places,hx⟩:=ztM os enc
 refine returnsInHanded_of_row (C:=Tryz.checked) (s:=Rows.OpenSpec.upto Rows.loneSpec) own started (by kernel_rfl) Tryz.func3
  (witness_row_atRef (enc:=enc) (C:=Tryz.checked) false (World.laidAll Tryz.prog os Rows.loneUptoRow.laid) #[.string ⟨#[]⟩,.int .i64 0,.int .i64 0] (World.laidAll_os _ _ _) (by kernel_rfl) (by kernel_rfl) (by kernel_rfl)
   (OpenSpec.preRow_of_cond 8 hx (by kernel_rfl) (fun k hk=>by cases hk;kernel_rfl) (by kernel_rfl) (z7w os _))) ?_
 intro W base args ds gs before hval hW _ hcond _ hL hS _
 exact zPu H enc W base args ds gs before hval hW hL hS (hcond _ rfl)

theorem said:Rows.LoneUptoSaid:=
 OpenClaim.holds_of_cond 3 Tryz.f3 rfl rfl rfl rfl rfl rfl rfl ⟨rfl,rfl,rfl,rfl,rfl⟩ rfl rfl rfl rfl rfl (by kernel_rfl) Tryz.func3 (by kernel_rfl)
  (of_decide_eq_true (by kernel_rfl)) (by unfold Func.isWrapper;first | (rw [if_pos (by decide +kernel)];kernel_rfl) | (rw [if_neg (by decide +kernel)];exact ⟨rfl,rfl⟩))
  (fun os started H enc _ F=>by rw [OpenClaim.pre_eq_preRow];exact zQs os started H enc F)

theorem zB4 (f:FuncId) (fn:Func) (hf:Tryz.pinned.checked.prog.funcNamed "linear/linearlaw.Lone"=some f) (hfn:Tryz.pinned.checked.prog.funcs[f]?=some fn):
 true=Tryz.pinned.checked.prog.looks []∧∀ (j:Nat) t,fn.params[j]?=some t→Tryz.pinned.checked.prog.wantsStandIn t=false:=by
 obtain rfl:f=3:=Option.some.inj ((show Tryz.prog.funcNamed "linear/linearlaw.Lone"=some 3 by kernel_rfl).symm.trans hf) |>.symm
 obtain rfl:fn=Tryz.f3:=(Option.some.inj (Tryz.func3.symm.trans hfn)).symm
 refine ⟨by kernel_rfl,fun j t ht=>?_⟩
 rw [Tryz.params3] at ht
 obtain rfl | rfl:t=9∨t=3:=by simpa using Array.mem_of_getElem? ht
 · exact (show Tryz.prog.wantsStandIn 9=false by kernel_rfl)
 · exact (show Tryz.prog.wantsStandIn 3=false by kernel_rfl)

/-- THE CARD -/
theorem card:Rows.LoneUptoCardSaid:=
 Claim7.holds_tied_plain_at .later [] _ _ _ _ said (fun _ h=>by cases h) (by kernel_rfl) (fun _ h=>by cases h) loneUpto_row_tie rfl ⟨rfl,rfl⟩ (by kernel_rfl) rfl zB4 (by kernel_rfl)
end Go.Proofs.YtbbkihekjdffpaaGreatDoor.lone
namespace Go.Proofs.YtbbkihekjdffpaaGreatDoor
/-- LONE, the second form's card. -/
theorem lone_holds:Rows.LoneUptoCardSaid:=lone.card
end Go.Proofs.YtbbkihekjdffpaaGreatDoor
