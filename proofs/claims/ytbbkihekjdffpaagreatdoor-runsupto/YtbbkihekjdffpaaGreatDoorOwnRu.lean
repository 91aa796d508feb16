/- Runs: of every text, every name and every budget, Run says nothing but what the reference allows, for all texts and names of bulk at most 1048576. Conditions: the listed package-level variables hold what the program's text lays in them; the second form's bound. -/
import Derived.Test.YtbbkihekjdffpaaGreatDoorCards
import Derived.Test.YtbbkihekjdffpaaGreatDoorJeE
import Derived.Test.YtbbkihekjdffpaaGreatDoorTie
import Derived.Test.YtbbkihekjdffpaaGreatDoorVarsL
import Derived.Carry
import Derived.Deep.DeepHandedRow
import Derived.Deep.DeepWitnessRowRef
import Derived.ProofKit
namespace Go.Proofs.YtbbkihekjdffpaaGreatDoor.runs
open Go.Proofs.Tryz
open Go.ChangeShapes Go.WideShapes Go.ChangeAt Go.RowKit Go.Lib Go.Proofs.YtbbkihekjdffpaaGreatDoor.srch
open Go.ChangeMaps (open_string shut_string)
theorem own:ownKnob prog.godebug=none:=by kernel_rfl
theorem zpv:(Rows.runsUptoRow.laid.all fun x=>x.2.handleName?.isNone)=true:=by kernel_rfl
/-- What the bound gives. -/
theorem zbb {H:Type}{d2:DataW H}{s m:ByteArray}(hk:Rows.uptoSmall H [.lit (.string s.data.toList),.lit (.string m.data.toList),d2]=true):s.data.toList.length≤1048576∧m.data.toList.length≤1048576:=by
 have h:Rows.uptoBulkAll [DataW.lit (H:=H) (.string s.data.toList),.lit (.string m.data.toList),d2]≤1048576:=of_decide_eq_true hk;simp only [Rows.uptoBulkAll,Rows.uptoBulk]at h;omega
set_option maxRecDepth 100000 in
theorem zPu (H:Type) (enc:TypeId×Value→H) (W:World) (base:Nat) (args:Array Value) (ds gs:List (DataW H)) (before:List MemPlace)
 (hval:∀(j:Nat) t v,Tryz.f4.params[j]?=some t→args[j]?=some v→Value.okWide prog W .any base t v)
 (hW:DataW.Whole enc prog Tryz.f4.params.toList Rows.runsSpec.vars false W args.toList ds gs before) (hL:laidMetH prog Rows.runsUptoRow.laid W) (hS:W.ShapedOpen prog) (hk:Rows.uptoSmall H (ds++gs)=true):
 Calls prog 4 args W fun e W'=>∃v,e=.returned v∧Rows.runsSpec.post enc prog Tryz.f4 false true false false W args v W':=by
 have hW':=hW;obtain⟨p,q,hA0,hV,rfl,hfz,hnd⟩:=hW;have hA:DataW.TrodAll enc prog W 0 (fun _=>true) true Tryz.f4.params.toList args.toList ds p:=hA0;rw[params4]at hA hval;obtain⟨v0,vs0,d0,ds0,p0,q0,hargs,rfl,rfl,h0,r0⟩:=trodAll_cons hA;obtain⟨v1,vs1,d1,ds1,p1,q1,rfl,rfl,rfl,h1,r1⟩:=trodAll_cons r0;obtain⟨v2,vs2,d2,ds2,p2,q2,rfl,rfl,rfl,h2,r2⟩:=trodAll_cons r1;obtain⟨rfl,rfl,rfl⟩:=trodAll_nil r2;obtain rfl:args=#[v0,v1,v2]:=by cases args;simp_all
 obtain⟨rfl,rfl⟩:=trodVars_none hV;obtain⟨s,rfl,rfl,rfl,hmax⟩:=open_string underlying9 (hval 0 9 v0 rfl rfl) h0;obtain⟨m,rfl,rfl,rfl,hmm⟩:=open_string underlying9 (hval 1 9 v1 rfl rfl) h1;obtain⟨b,rfl,rfl,rfl,hbu⟩:=open_int underlying3 (hval 2 3 v2 rfl rfl) h2;clear hA0;simp only [List.append_nil]at hW' hk;have hsh:=zbb hk;rw[MakeChecks.laidMetH_plain _ _ _ zpv]at hL;have hg:Glob W:=zTD hS (laidMet.reads hL (by simp[Rows.runsUptoRow])) (laidMet.reads hL (by simp[Rows.runsUptoRow])) (laidMet.reads hL (by simp[Rows.runsUptoRow])) (laidMet.reads hL (by simp[Rows.runsUptoRow])) (laidMet.reads hL (by simp[Rows.runsUptoRow]));have hp:Pow W:=zSO (laidMet.reads hL (by simp[Rows.runsUptoRow]));have hm:Mods W:=zh1 (laidMet.reads hL (by simp[Rows.runsUptoRow]));refine(jd.runs_walk s.data.toList m.data.toList b (bounds_i64 hbu) W hg hp hm (by omega) (by omega)).mono fun e W' ⟨hb,he⟩=>?_;subst he;have e1:Rows.runsSpec.fn H ([.lit (.string s.data.toList),.lit (.string m.data.toList),.lit (.int .i64 b)]++[])={ results:=[.lit (.bool true)],args:=[.lit (.string s.data.toList),.lit (.string m.data.toList),.lit (.int .i64 b)] }:=rfl;refine⟨_,rfl,_,_,_,[],[],[],hW',?_,?_,?_,hb.frame _,fun h=>by cases h⟩
 ·rw[e1];exact trodAll_cons_mk (shut_bool underlying4 _) trodAll_mk0
 ·rw[e1];exact trodAll_cons_mk (shut_string underlying9 hmax) (trodAll_cons_mk (shut_string underlying9 hmm) (trodAll_cons_mk (shut_int underlying3 hbu) trodAll_mk0))
 ·rw[e1];rfl
/-- A world for the witness: the listed variables hold what is listed. -/
theorem z7w (os:Os)(args:Array Value):laidMetH prog Rows.runsUptoRow.laid ((World.laidAll prog os Rows.runsUptoRow.laid).forCall (fun _ _=>0) ⟨#[],args,[]⟩).memory:=by
 rw[MakeChecks.laidMetH_plain _ _ _ zpv];exact laidMet_laidAll _ (by kernel_rfl) (by kernel_rfl)
theorem ztM (os:Os){H:Type}(enc:TypeId×Value→H):∃places,DataW.whole enc prog ((World.laidAll prog os Rows.runsUptoRow.laid).forCall (fun _ _=>0) ⟨#[],#[.string ⟨#[]⟩,.string ⟨#[]⟩,.int .i64 0],[]⟩).memory Tryz.f4.params.toList Rows.runsSpec.vars false #[Value.string ⟨#[]⟩,.string ⟨#[]⟩,.int .i64 0].toList 8=some ([.lit (.string []),.lit (.string []),.lit (.int .i64 0)],[],places):=
 ⟨[],by kernel_rfl⟩
set_option maxRecDepth 100000 in
theorem zQs (os:Os)(started:os.Started)(H:Type)(enc:TypeId×Value→H)(F:Stop.Interp):
 ReturnsInHanded {} Tryz.checked os 4 .any ((Rows.OpenSpec.upto Rows.runsSpec).preRow enc prog Tryz.f4 Rows.runsUptoRow.domain false Rows.runsUptoRow.laid) (((Rows.OpenSpec.upto Rows.runsSpec).at F).post enc prog Tryz.f4 false true false false):=by
 obtain⟨places,hx⟩:=ztM os enc;refine returnsInHanded_of_row (C:=Tryz.checked) (s:=Rows.OpenSpec.upto Rows.runsSpec) own started (by kernel_rfl) func4
  (witness_row_atRef (enc:=enc) (C:=Tryz.checked) false (World.laidAll prog os Rows.runsUptoRow.laid) #[.string ⟨#[]⟩,.string ⟨#[]⟩,.int .i64 0] (World.laidAll_os _ _ _) (by kernel_rfl) (by kernel_rfl) (by kernel_rfl)
   (OpenSpec.preRow_of_cond 8 hx (by kernel_rfl) (fun k hk=>by cases hk;kernel_rfl) (by kernel_rfl) (z7w os _))) ?_
 intro W base args ds gs before hval hW _ hcond _ hL hS _;exact zPu H enc W base args ds gs before hval hW hL hS (hcond _ rfl)
theorem said:Rows.RunsUptoSaid:=
 OpenClaim.holds_of_cond 4 Tryz.f4 rfl rfl rfl rfl rfl rfl rfl ⟨rfl,rfl,rfl,rfl,rfl⟩ rfl rfl rfl rfl rfl (by kernel_rfl) func4 (by kernel_rfl)
  (of_decide_eq_true (by kernel_rfl)) (by unfold Func.isWrapper;first|(rw[if_pos (by decide +kernel)];kernel_rfl)|(rw[if_neg (by decide +kernel)];exact⟨rfl,rfl⟩))
  (fun os started H enc _ F=>by rw[OpenClaim.pre_eq_preRow];exact zQs os started H enc F)
theorem zC4c (f:FuncId)(fn:Func)(hf:Tryz.pinned.checked.prog.funcNamed "linear/linearlaw.Runs"=some f)(hfn:Tryz.pinned.checked.prog.funcs[f]?=some fn):
 true=Tryz.pinned.checked.prog.looks []∧∀(j:Nat) t,fn.params[j]?=some t→Tryz.pinned.checked.prog.wantsStandIn t=false:=by
 obtain rfl:f=4:=Option.some.inj ((show prog.funcNamed "linear/linearlaw.Runs"=some 4 by kernel_rfl).symm.trans hf) |>.symm;obtain rfl:fn=Tryz.f4:=(Option.some.inj (func4.symm.trans hfn)).symm;refine⟨by kernel_rfl,fun j t ht=>?_⟩;rw[params4]at ht;obtain rfl|rfl:t=9∨t=3:=by simpa using Array.mem_of_getElem? ht
 ·exact(show prog.wantsStandIn 9=false by kernel_rfl)
 ·exact(show prog.wantsStandIn 3=false by kernel_rfl)
/-- THE CARD -/
theorem card:Rows.RunsUptoCardSaid:=
 Claim7.holds_tied_plain_at .later [] _ _ _ _ said (fun _ h=>by cases h) (by kernel_rfl) (fun _ h=>by cases h) runsUpto_row_tie rfl ⟨rfl,rfl⟩ (by kernel_rfl) rfl zC4c (by kernel_rfl)
end Go.Proofs.YtbbkihekjdffpaaGreatDoor.runs
namespace Go.Proofs.YtbbkihekjdffpaaGreatDoor
open Go.Proofs.Tryz
/-- RUNS, the second form's card. -/
theorem runs_holds:Rows.RunsUptoCardSaid:=runs.card
end Go.Proofs.YtbbkihekjdffpaaGreatDoor
