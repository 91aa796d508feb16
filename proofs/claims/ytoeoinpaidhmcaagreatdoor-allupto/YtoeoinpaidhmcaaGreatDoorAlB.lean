/- Several texts in one. -/
import Derived.Test.YtoeoinpaidhmcaaGreatDoorAlE
import Derived.LoopIn
import Derived.LoopNIn
import Derived.OwnWalkIn
import Derived.RangeFuncBound
import Derived.RangeFuncCalls
import Derived.RangeFuncLeaves
import Derived.RangeFuncNested
import Derived.Shelf.Abstract
import Derived.Shelf.RegionOpen
import Derived.TacticsInMore
set_option maxHeartbeats 4000000
set_option maxRecDepth 100000
namespace Go.Proofs.YtoeoinpaidhmcaaGreatDoor.jd
open Tryz
open Go.RowKit Go.Shelf
attribute [local go_sem] Oper.semAt_some
theorem zL6 (s:List UInt8)(w:World)(i:s.length≤100000000):
 Calls prog 256 #[.agg #[],.string ⟨s.toArray⟩] w fun e w'=>e=.returned (.string ⟨s.toArray⟩)∧Below w.heap.size w w':=by
 have d:=fun W=>Tryz.stringslite_Clone ⟨s.toArray⟩ W (by show s.toArray.size≤_;simp;omega);have g:∀W,Calls prog 258 #[.string ⟨s.toArray⟩] W fun e w'=>e=.returned (.string ⟨s.toArray⟩)∧Below W.heap.size W w':=by
  intro W;go_enter func258,ntmps258;go_wp2_with fail;refine(d _).mono ?_;rintro e h ⟨rfl,a⟩;go_wp2;go_ret;exact⟨rfl,a⟩
 have b:Below w.heap.size w (w.alloc (.cells #[] 135)):=zA _ _;clear d;go_enter func256,ntmps256;go_wp2_with fail;refine(g _).mono ?_;rintro e h ⟨rfl,a⟩;go_wp2;go_ret;exact⟨rfl,b.trans (a.mono b.size)⟩
theorem znB (s:List UInt8)(w:World):
 Calls prog 257 #[.string ⟨s.toArray⟩,.string ⟨#[44]⟩] w fun e w'=>∃d a b:Nat,e=.returned (.func (.func 260) #[] #[.pointer (some ⟨d,0,none⟩),.pointer (some ⟨a,0,none⟩),.pointer (some ⟨b,0,none⟩)])∧Below w.heap.size w w'∧(w.heap.size≤d∧w.heap.size≤a∧w.heap.size≤b)∧(d≠a∧b≠a)∧w'.heap[d]?=some (.cells #[.string ⟨#[44]⟩] 9 (0,0))∧w'.heap[a]?=some (.cells #[.string ⟨s.toArray⟩] 9 (0,0))∧w'.heap[b]?=some (.cells #[.int .i64 0] 3 (0,0)):=by
 have g:Calls prog 259 #[.string ⟨s.toArray⟩,.string ⟨#[44]⟩,.int .i64 0] w fun e w'=>∃d a b:Nat,e=.returned (.func (.func 260) #[] #[.pointer (some ⟨d,0,none⟩),.pointer (some ⟨a,0,none⟩),.pointer (some ⟨b,0,none⟩)])∧Below w.heap.size w w'∧(w.heap.size≤d∧w.heap.size≤a∧w.heap.size≤b)∧(d≠a∧b≠a)∧w'.heap[d]?=some (.cells #[.string ⟨#[44]⟩] 9 (0,0))∧w'.heap[a]?=some (.cells #[.string ⟨s.toArray⟩] 9 (0,0))∧w'.heap[b]?=some (.cells #[.int .i64 0] 3 (0,0)):=by
  go_enter func259,ntmps259;go_wp2;go_ret;refine⟨w.heap.size+1,w.heap.size,w.heap.size+1+1,rfl,((zA _ _).alloc (by simp) _).alloc (by simp;omega) _,⟨by omega,Nat.le_refl _,by omega⟩,⟨by omega,by omega⟩,?_,?_,ziF _ _ _ (by simp)⟩
  ·rw[zD1 _ _ _ (by simp)];exact ziF _ _ _ (by simp)
  ·rw[zD1 _ _ _ (by simp;omega),zD1 _ _ _ (by simp)];exact ziF _ _ _ rfl
 go_enter func257,ntmps257;go_wp2_with fail;refine g.mono ?_;rintro e i ⟨d,a,b,rfl,h⟩;go_wp2;go_ret;exact⟨d,a,b,rfl,h⟩
attribute [local go_sem] Oper.semAt_some
theorem zQX (l:List UInt8):(Lib.indexByte l 44= -1∧∀c∈l,c≠44)∨∃i:Nat,Lib.indexByte l 44=(i:Int)∧i<l.length∧l=l.take i++44::l.drop (i+1)∧∀c∈l.take i,c≠44:=by
 induction l with
 |nil=>exact Or.inl ⟨rfl,by simp⟩
 |cons b t ih=>
   by_cases hb:b=44
   ·subst hb;exact Or.inr ⟨0,by simp[Lib.indexByte],by simp,by simp,by simp⟩
   ·have a:(b==44)=false:=(by simpa using hb);rcases ih with ⟨d,e⟩|⟨i,d,e,h,j⟩
    ·refine Or.inl ⟨by simp[Lib.indexByte,a,d],fun c hc=>?_⟩;rcases List.mem_cons.1 hc with rfl|hc
     ·exact hb
     ·exact e c hc
    ·refine Or.inr ⟨i+1,?_,by simpa using e,?_,fun c hc=>?_⟩
     ·have g:((i:Int) == -1)=false:=(by simp);simp[Lib.indexByte,a,d,g]
     ·simpa using h
     ·simp only [List.take_succ_cons,List.mem_cons]at hc;rcases hc with rfl|hc
      ·exact hb
      ·exact j c hc
def zZV (bs:Nat)(w:World):Nat:=match w.cell? ⟨bs,0,none⟩with|some (.string x)=>x.size|_=>0
theorem zhD (n l j g k D:Nat) (ad:j<D) (Z:g<D) (aa:k<D) (N:j≠g) (ab:k≠g)
 (J:List UInt8→World→Prop) (R F:World→Prop) (hJ:∀r A x,J r A→J r (A.setCell ⟨g,0,none⟩ x))
 (hY:∀a b W,(∀c∈a,c≠44)→J (a++44::b) W→YieldAt Fence.wide (n-1) prog l #[.string ⟨a.toArray⟩] W fun e W'=>(e=.returned (.bool true)∧J b W'∧Below D W W')∨(e=.returned (.bool false)∧F W'))
 (hZ:∀a W,(∀c∈a,c≠44)→J a W→YieldAt Fence.wide (n-1) prog l #[.string ⟨a.toArray⟩] W fun e W'=>(e=.returned (.bool true)∧R W')∨(e=.returned (.bool false)∧F W'))
 (s:List UInt8) (W:World) (z:W.heap[j]?=some (.cells #[.string ⟨#[44]⟩] 9 (0,0))) (Q:W.heap[g]?=some (.cells #[.string ⟨s.toArray⟩] 9 (0,0))) (K:W.heap[k]?=some (.cells #[.int .i64 0] 3 (0,0))) (U:J s W) (ah:s.length≤100000000):
 CallsIn Fence.wide n prog 260 #[.func (.yield l) #[] #[],.pointer (some ⟨j,0,none⟩),.pointer (some ⟨g,0,none⟩),.pointer (some ⟨k,0,none⟩)] W fun e W'=>(∃v,e=.returned v)∧(R W'∨F W'):=by
 have t:=fun x W=>Tryz.strings_Index_one x 44 W;have p0:W.cell? ⟨j,0,none⟩=some (.string ⟨#[44]⟩):=zBk z 0;refine callsIn_of_wp func260 rfl trivial ?_ rfl;simp only [ntmps260,List.size_toArray,List.length_cons,List.length_nil,Nat.reduceAdd,Nat.reduceSub,Array.replicate_succ,Array.replicate_zero,List.push_toArray,List.append_toArray,List.nil_append,List.cons_append]
 gi_wp2
 gi_loopw [7] (fun(_:Value) wr=>∃d:List UInt8,d.length≤s.length∧wr.heap[j]?=some (.cells #[.string ⟨#[44]⟩] 9 (0,0))∧wr.heap[g]?=some (.cells #[.string ⟨d.toArray⟩] 9 (0,0))∧wr.heap[k]?=some (.cells #[.int .i64 0] 3 (0,0))∧J d wr) (fun(_:Value) wr=>zZV g wr)
 case atStart=>exact⟨s,Nat.le_refl _,z,Q,K,U⟩
 case round=>
  obtain⟨d,hl,u,B,y,V⟩:=hrel;have q0:wr.cell? ⟨j,0,none⟩=some (.string ⟨#[44]⟩):=zBk u 0;have M:wr.cell? ⟨g,0,none⟩=some (.string ⟨d.toArray⟩):=zBk B 0;have q2:wr.cell? ⟨k,0,none⟩=some (.int .i64 0):=zBk y 0;have m:=t ⟨d.toArray⟩ wr;rw[show(⟨d.toArray⟩:ByteArray).data.toList=d from rfl]at m;clear p0 z Q K U t;rcases zQX d with ⟨q,I⟩|⟨i,q,I,P,L⟩
  ·rw[q]at m;obtain⟨fn,C,p,H,S,hR⟩:=hZ d wr I V
   gi_wp2_with (refine⟨trivial,(fun h=>by cases h),?_⟩;refine(callsIn_wide.2 m).mono ?_;rintro e Y ⟨rfl,rfl⟩)
   refine⟨(fun h=>by cases h),hR.mono ?_⟩;rintro e G (⟨rfl,hd⟩|⟨rfl,E⟩)
   ·gi_wp2
    go_end0;exact⟨⟨_,rfl⟩,.inl hd⟩
   ·gi_wp2
    go_end0;exact⟨⟨_,rfl⟩,.inr E⟩
  ·rw[q]at m;obtain⟨fn,C,p,H,S,hR⟩:=hY (d.take i) (d.drop (i+1)) wr L (by rw[←P];exact V);have ai:(⟨d.toArray⟩:ByteArray).extract 0 i=⟨(d.take i).toArray⟩:=by
    rw[Lib.extract_eq];simp
   have ag:(⟨d.toArray⟩:ByteArray).extract (i+1) d.length=⟨(d.drop (i+1)).toArray⟩:=by
    rw[Lib.extract_eq];show(⟨(List.take (d.length-(i+1)) (List.drop (i+1) d)).toArray⟩:ByteArray)=_;rw[List.take_of_length_le (by simp)]
   have al:IntKind.i64.wrap ((i:Int)+0)=(i:Int):=(by rw[IntKind.wrap_i64];omega);have ae:IntKind.i64.wrap (i:Int)=(i:Int):=(by rw[IntKind.wrap_i64];omega);have af:IntKind.i64.wrap ((i:Int)+1)=(i:Int)+1:=(by rw[IntKind.wrap_i64];omega);have ak:(i:Int)+1≤(d.length:Int):=(by omega);have aj:(i:Int)≤(d.length:Int):=(by omega);clear q P L
   gi_wp2_with (refine⟨trivial,(fun h=>by cases h),?_⟩;refine(callsIn_wide.2 m).mono ?_;rintro e Y ⟨rfl,rfl⟩)
   refine⟨(fun h=>by cases h),hR.mono ?_⟩;rintro e G (⟨rfl,X,o⟩|⟨rfl,E⟩)
   ·have O:=(o.block j ad).trans u;have w:=(o.block g Z).trans B;have fv:=(o.block k aa).trans y;have g0:G.cell? ⟨j,0,none⟩=some (.string ⟨#[44]⟩):=zBk O 0;have g1:G.cell? ⟨g,0,none⟩=some (.string ⟨d.toArray⟩):=zBk w 0;have g2:=zBn w 0;have hm:zZV g Y=d.length:=(by unfold zZV;rw[M];show d.toArray.size=_;simp);clear q0 M q2 u B y S hR
    gi_wp2
    go_roundw
    case rel=>exact⟨d.drop (i+1),by simp;omega,by rw[zRA N];exact O,by rw[zFg w 0 _];rfl,by rw[zRA ab];exact fv,hJ _ _ _ X⟩
    case measure=>
     rw[hm];unfold zZV;rw[World.cell?_setCell_same' _ _ _ (by rw[g1];rfl)];show(d.drop (i+1)).toArray.size<_;simp;omega
   ·gi_wp2
    refine bodyPost_ret (results_none rfl _ _ _) rfl ?_;exact⟨⟨_,rfl⟩,.inr E⟩
structure Tn (D bs:Nat)(A B:World):Prop where
 os:B.os=A.os
 tape:B.tape=A.tape
 output:B.output=A.output
 size:A.heap.size≤B.heap.size
 block:∀k,k<D→k≠bs→B.heap[k]?=A.heap[k]?
theorem Tn.cell {D b:Nat}(A:World)(x:Value):Tn D b A (A.setCell ⟨b,0,none⟩ x):=⟨rfl,rfl,rfl,by simp,fun k _ hb=>zRA (a:=⟨b,0,none⟩) hb x⟩
theorem Tn.put {D a l:Nat}(h:D≤l)(A:World)(o:Obj):Tn D a A (A.putObj l o):=⟨rfl,rfl,rfl,by simp,fun k hk _=>World.putObj_heap_other (by omega)⟩
theorem Tn.new {D a:Nat}{A:World}(h:D≤A.heap.size)(o:Obj):Tn D a A (A.alloc o):=⟨rfl,rfl,rfl,by simp,fun k hk _=>Below.heap_alloc _ _ _ (by omega)⟩
theorem zyL {D l:Nat}(h:D≤l)(A:World)(o:Obj):Below D A (A.putObj l o):=⟨rfl,rfl,rfl,by simp,fun k hk=>World.putObj_heap_other (by omega)⟩
def rndP (D:Nat)(T Ix:World→Prop)(W:World):Exit→Act→World→Prop
 |.normal,_,W'=>Below W.heap.size W W'∧T W'
 |.ret,_,W'=>(W.heap.size≤W'.heap.size∧∀k,D≤k→k<W.heap.size→W'.heap[k]?=W.heap[k]?)∧Ix W'
 |_,_,_=>False
theorem zfk {g:Operand} {ps:Array Tmp} {m E:Code} {Q:Exit→Act→World→Prop} {a:Act} {w:World} {n U j O:Nat} {s:List UInt8} (aj:s.length≤100000000)
 (hp:w.heap[U]?=some (.cells #[.string ⟨#[44]⟩] 9 (0,0))) (hs:w.heap[j]?=some (.cells #[.string ⟨s.toArray⟩] 9 (0,0))) (hv:w.heap[O]?=some (.cells #[.int .i64 0] 3 (0,0))) (ay:U≠j) (ar:O≠j)
 (hg:a.eval g=.func (.func 260) #[] #[.pointer (some ⟨U,0,none⟩),.pointer (some ⟨j,0,none⟩),.pointer (some ⟨O,0,none⟩)]) (al:ps.size=1)
 (I:List UInt8→World→Prop) (J R:World→Prop) (N:∀r A B,I r A→Tn w.heap.size j A B→I r B) (ag:∀A B,J A→Tn w.heap.size j A B→J B) (ad:∀A B,R A→Tn w.heap.size j A B→R B) (h0:I s w) (a₁:List UInt8→Act)
 (S:∀(l:Nat) (x:List UInt8) (W:World) (K:Act→World→Prop),K (a₁ x) W→m.wpIn (Fence.wide.inRound l) (n-1-1) prog (Exit.then K (fun _ _ _=>False)) { tmps:=(ps.zip #[Value.string ⟨x.toArray⟩]).foldl (fun t (p,v)=>t.setIfInBounds p v) a.tmps,defers:=[] } W)
 (aa:∀(l:Nat) (x:List UInt8) (T:World→Prop) (W:World),(∀c∈x,c≠44)→((∃b,I (x++44::b) W∧T=I b)∨(I x W∧T=J))→E.wpIn (Fence.wide.inRound l) (n-1-1) prog (rndP w.heap.size T R W) (a₁ x) W)
 (Z:∀W,J W→W.heap[w.heap.size]?=some (.deferred (some []))→Q .normal { a with defers:={ target:=.collected w.heap.size,args:=#[] }::a.defers } W)
 (ab:∀W,R W→W.heap[w.heap.size]?=some (.deferred (some []))→Code.ret.wpIn Fence.wide n prog Q { a with defers:={ target:=.collected w.heap.size,args:=#[] }::a.defers } W):
 (Code.rangeFunc g ps m E).wpIn Fence.wide n prog Q a w:=by
 refine wpIn_rangeFunc ?_;intro fn ao;obtain⟨D,hD⟩:∃D,D=w.heap.size:=⟨_,rfl⟩;obtain⟨d,i⟩:∃d:LoopState→Option Code→Loop,d=fun st pe=>{ state:=st,pending:=pe,fn,tmps:=a.tmps,params:=ps,assign:=m,body:=E,defers:=w.heap.size }:=⟨_,rfl⟩;obtain⟨u,F⟩:∃u,(w.alloc (.deferred (some []))).alloc (.loop (d .ready none))=u:=⟨_,rfl⟩;have ak:u.heap[w.heap.size+1]?=some (.loop (d .ready none)):=by
  rw[←F];have:=World.alloc_heap_new (w.alloc (.deferred (some []))) (.loop (d .ready none));rwa [World.size_alloc]at this
 have av:u.heap[w.heap.size]?=some (.deferred (some [])):=by
  rw[←F];exact(Below.heap_alloc _ _ _ (by simp)).trans (World.alloc_heap_new w _)
 have am:I s u:=by rw[←F];exact N _ _ _ (N _ _ _ h0 (Tn.new zH _)) (Tn.new (by simp) _)
 have L:∀k,k<w.heap.size→u.heap[k]?=w.heap[k]?:=fun k H=>by rw[←F];exact(Below.heap_alloc _ _ _ (by simp;omega)).trans (Below.heap_alloc _ _ _ H)
 have lp:=zBq hp;have ls:=zBq hs;have lv:=zBq hv;refine⟨w.heap.size+1,[{ target:=.collected w.heap.size,args:=#[] }],u,{ target:=.fn (.func 260) #[.pointer (some ⟨U,0,none⟩),.pointer (some ⟨j,0,none⟩),.pointer (some ⟨O,0,none⟩)],args:=#[.func (.yield (w.heap.size+1)) #[] #[]] },u,260,
  #[.func (.yield (w.heap.size+1)) #[] #[],.pointer (some ⟨U,0,none⟩),.pointer (some ⟨j,0,none⟩),.pointer (some ⟨O,0,none⟩)],u,?_,?_,?_,?_,(fun h=>by cases h),?_⟩
 ·rw[←F,i];exact run_enterLoop_outer _ _ _ _ _
 ·simp only [resolve,hg];simp[go_sem]
 ·intro f' aB;trivial
 ·simp[invoke,go_sem]
 ·have ah:∀(x:List UInt8) (T:World→Prop) (W:World),(∀A B,T A→Tn w.heap.size j A B→T B)→(∀c∈x,c≠44)→(∀A,Tn w.heap.size j W A→(∃b,I (x++44::b) A∧T=I b)∨(I x A∧T=J))→W.heap[w.heap.size+1]?=some (.loop (d .ready none))→W.heap[w.heap.size]?=some (.deferred (some []))→
   YieldAt Fence.wide (n-1-1) prog (w.heap.size+1) #[Value.string ⟨x.toArray⟩] W fun e W'=>(e=.returned (.bool true)∧(T W'∧W'.heap[w.heap.size+1]?=some (.loop (d .ready none))∧W'.heap[w.heap.size]?=some (.deferred (some [])))∧Below w.heap.size W W')∨(e=.returned (.bool false)∧R W'∧W'.heap[w.heap.size+1]?=some (.loop (d .done (some .ret)))∧W'.heap[w.heap.size]?=some (.deferred (some []))):=by
   intro x T W hT V au G H;have aw:w.heap.size+1<W.heap.size:=(Array.getElem?_eq_some_iff.1 G).1;have hy:=run_yield (P:=prog) (args:=#[Value.string ⟨x.toArray⟩]) G (by rw[i];exact al.symm);rw[i]at hy;refine⟨fn,_,m,E,hy,roundIn_of_wpIn ao (S _ x W _ ⟨_,run_beginRound G (by rw[i]),?_⟩)⟩;obtain⟨C,z⟩:∃C,C=W.putObj (w.heap.size+1) (.loop { d .ready none with state:=.busy }):=⟨_,rfl⟩;have ai:C.heap[w.heap.size+1]?=some (.loop { d .ready none with state:=.busy }):=(by rw[z];exact World.putObj_heap_same aw);have ae:C.heap[w.heap.size]?=some (.deferred (some [])):=(by rw[z];exact(World.putObj_heap_other (by omega)).trans H);have aA:C.heap.size=W.heap.size:=(by rw[z];simp);have aq:Below w.heap.size W C:=(by rw[z];exact zyL (by omega) _ _);have az:Tn w.heap.size j W C:=(by rw[z];exact Tn.put (by omega) _ _);rw[←z];have af:∀(jump:Option Code) (o:World),o.heap[w.heap.size+1]?=some (.loop { d .ready none with state:=.busy })→o.heap[w.heap.size]?=some (.deferred (some []))→
    (Instr.endRound (w.heap.size+1) jump).run prog o=.ok (.bool jump.isNone) (o.putObj (w.heap.size+1) (.loop (d (if jump.isNone then .ready else .done) jump)))∧
    (o.putObj (w.heap.size+1) (.loop (d (if jump.isNone then .ready else .done) jump))).heap[w.heap.size+1]?=some (.loop (d (if jump.isNone then .ready else .done) jump))∧
    (o.putObj (w.heap.size+1) (.loop (d (if jump.isNone then .ready else .done) jump))).heap[w.heap.size]?=some (.deferred (some [])):=fun jump o hl3 hk3=>by
    have:=run_endRound (P:=prog) jump hl3;rw[i]at this⊢;exact⟨this,World.putObj_heap_same (Array.getElem?_eq_some_iff.1 hl3).1,(World.putObj_heap_other (by omega)).trans hk3⟩
   refine wpIn_mono (aa _ x T C V (au C az)) ?_;rintro e a3 o M;cases e with
   |normal=>
     obtain⟨y,an⟩:=M;obtain⟨hr,Y,X⟩:=af none o ((y.block _ (by omega)).trans ai) ((y.block _ (by omega)).trans ae);exact⟨_,_,hr,.inl ⟨rfl,⟨hT _ _ an (Tn.put (by omega) _ _),Y,X⟩,(aq.trans (y.mono (by omega))).trans (zyL (by omega) _ _)⟩⟩
   |ret=>
     obtain⟨⟨_,y⟩,ax⟩:=M;obtain⟨hr,Y,X⟩:=af (some .ret) o ((y _ (by omega) (by omega)).trans ai) ((y _ (by omega) (by omega)).trans ae);exact⟨_,_,hr,.inr ⟨rfl,ad _ _ ax (Tn.put (by omega) _ _),Y,X⟩⟩
   |exit id=>exact M.elim
   |goto t=>exact M.elim
   |panic ch=>exact M.elim
   |outgrown=>exact M.elim
  refine(zhD (n-1) (w.heap.size+1) U j O w.heap.size lp ls lv ay ar
   (fun r W=>I r W∧W.heap[w.heap.size+1]?=some (.loop (d .ready none))∧W.heap[w.heap.size]?=some (.deferred (some [])))
   (fun W=>J W∧W.heap[w.heap.size+1]?=some (.loop (d .ready none))∧W.heap[w.heap.size]?=some (.deferred (some [])))
   (fun W=>R W∧W.heap[w.heap.size+1]?=some (.loop (d .done (some .ret)))∧W.heap[w.heap.size]?=some (.deferred (some [])))
   (fun r A x h=>⟨N _ _ _ h.1 (Tn.cell _ _),(zRA (a:=⟨j,0,none⟩) (by show _≠j;omega) x).trans h.2.1,(zRA (a:=⟨j,0,none⟩) (by show _≠j;omega) x).trans h.2.2⟩)
   (fun x b W V h=>ah x (I b) W (fun A B=>N b A B) V (fun A hA=>.inl ⟨b,N _ _ _ h.1 hA,rfl⟩) h.2.1 h.2.2)
   (fun x W V h=>(by
    obtain⟨f1,f2,f3,f4,f5,f6⟩:=ah x J W ag V (fun A hA=>.inr ⟨N _ _ _ h.1 hA,rfl⟩) h.2.1 h.2.2;exact⟨f1,f2,f3,f4,f5,f6.mono (fun e W' hh=>hh.imp (fun q=>⟨q.1,q.2.1⟩) id)⟩))
   s u ((L _ lp).trans hp) ((L _ ls).trans hs) ((L _ lv).trans hv) ⟨am,ak,av⟩ aj).mono ?_
  rintro e W2 ⟨⟨v,rfl⟩,⟨hi,G,H⟩|⟨hi,G,H⟩⟩
  ·exact⟨none,_,by have:=run_endLoop (P:=prog) G (by rw[i];simp);rw[i]at this;exact this,Z _ (ag _ _ hi (Tn.put (by omega) _ _)) ((World.putObj_heap_other (by omega)).trans H)⟩
  ·exact⟨some .ret,_,by have:=run_endLoop (P:=prog) G (by rw[i];simp);rw[i]at this;exact this,ab _ (ad _ _ hi (Tn.put (by omega) _ _)) ((World.putObj_heap_other (by omega)).trans H)⟩
open srch (decP zJf Pow)
attribute [local go_sem] Oper.semAt_some
theorem zbh (a:Array Value)(W:World)(d b:Nat)(e g:Value)(j:a[4]?.getD undef=.pointer (some ⟨d,0,none⟩))(h:a[5]?.getD undef=.pointer (some ⟨b,0,none⟩))(c0:W.heap[d]?=some (.cells #[e] 9 (0,0)))(c1:W.heap[b]?=some (.cells #[g] 4 (0,0))):
 (results Tryz.f255 a).run prog W=.ok (.tuple #[e,g]) W:=by
 have i:W.cell? ⟨d,0,none⟩=some e:=by rw[zBk c0];rfl
 have k:W.cell? ⟨b,0,none⟩=some g:=by rw[zBk c1];rfl
 simp[results,results255,go_sem,j,h,i,k]
theorem zOQ (s:List UInt8)(w:World)(hs:s.length≤100000000)(he:Errs w)(hp:Pow w):
 Calls prog 255 #[.agg #[],.string ⟨s.toArray⟩] w fun e w'=>e=.returned (.tuple #[.string ⟨(if quB s=true then s else []).toArray⟩,.bool (quB s)])∧Below w.heap.size w w':=by
 obtain⟨v,aa,Q,z,y⟩:∃v,v=((w.alloc (.cells #[] 135)).alloc (.cells #[.string ⟨#[]⟩] 9)).alloc (.cells #[.bool false] 4)∧Below w.heap.size w v∧v.heap[w.heap.size+1]?=some (.cells #[.string ⟨#[]⟩] 9 (0,0))∧v.heap[w.heap.size+1+1]?=some (.cells #[.bool false] 4 (0,0)):=
  ⟨_,rfl,((zA _ _).alloc (by simp) _).alloc (by simp;omega) _,by rw[zD1 _ _ _ (by simp)];exact ziF _ _ _ (by simp),ziF _ _ _ (by simp)⟩
 have X:=znB s v;have c0:v.cell? ⟨w.heap.size+1,0,none⟩=some (.string ⟨#[]⟩):=zBk z 0;have c1:v.cell? ⟨w.heap.size+1+1,0,none⟩=some (.bool false):=zBk y 0;have z0:=zBn z 0;have z1:=zBn y 0;obtain⟨B,hB⟩:∃B,Hid (quB s=B):=⟨_,rfl⟩;obtain⟨RS,u⟩:∃RS,Hid ((if quB s=true then s else [])=RS):=⟨_,rfl⟩;rw[u.out,hB.out];refine(callsIn_wide (n:=3)).1 ?_;refine callsIn_of_wp_marks func255 rfl trivial ?_ rfl;simp only [ntmps255,List.size_toArray,List.length_cons,List.length_nil,Nat.reduceAdd,Nat.reduceSub,Array.replicate_succ,Array.replicate_zero,List.push_toArray,List.append_toArray,List.nil_append,List.cons_append];cases hq:(s==[])with
 |true=>
   obtain rfl:s=[]:=(by simpa using hq);have ae:Hid (quB []=true):=(znb []).2 ⟨[],by simp,rfl⟩
   gi_wp2
   obtain⟨I,h5,h6,h7,h8⟩:∃I,I=((w.alloc (.cells #[] 135)).alloc (.cells #[.string ⟨#[]⟩] 9)).alloc (.cells #[.bool true] 4)∧Below w.heap.size w I∧I.heap[w.heap.size+1]?=some (.cells #[.string ⟨#[]⟩] 9 (0,0))∧I.heap[w.heap.size+1+1]?=some (.cells #[.bool true] 4 (0,0)):=
    ⟨_,rfl,((zA _ _).alloc (by simp) _).alloc (by simp;omega) _,by rw[zD1 _ _ _ (by simp)];exact ziF _ _ _ (by simp),ziF _ _ _ (by simp)⟩
   rw[←h5];exact⟨_,zbh _ _ (w.heap.size+1) (w.heap.size+1+1) _ _ rfl rfl h7 h8,by rw[←u.out,←hB.out,ae.out];rfl,h6⟩
 |false=>
   have S:s≠[]:=by simpa using hq
   gi_wp2
   refine⟨trivial,?_⟩;rw[←aa];refine(callsIn_wide.2 X).mono ?_;rintro e Z ⟨bp,bs,bv,rfl,E,ak,U,kp,ks,kv⟩;have ai:=zBq y;have ah:=E.size;have aj:=zBq ks;obtain⟨m,i⟩:∃m:World→Prop,m=fun W=>Below w.heap.size w W∧W.heap[w.heap.size+1]?=some (.cells #[.string ⟨#[]⟩] 9 (0,0))∧W.heap[w.heap.size+1+1]?=some (.cells #[.bool false] 4 (0,0)):=⟨_,rfl⟩;have D:∀A C,m A→Tn Z.heap.size bs A C→m C:=by
    intro A C h t;rw[i]at h⊢;obtain⟨j,L,h3⟩:=h;refine⟨⟨t.os.trans j.os,t.tape.trans j.tape,t.output.trans j.output,Nat.le_trans j.size t.size,fun k hk=>(t.block k (by omega) (by omega)).trans (j.block k hk)⟩,(t.block _ (by omega) (by omega)).trans L,(t.block _ (by omega) (by omega)).trans h3⟩
   have Y:m Z:=by
    rw[i];exact⟨Q.trans (E.mono Q.size),(E.block _ (by omega)).trans z,(E.block _ (by omega)).trans y⟩
   have M:∀b:Bool,(quN s↔b=true)→quB s=b:=fun b h=>by
    rw[Bool.eq_iff_iff,znb,zCL S,h]
   clear X z y c0 c1 z0 z1 hq
   gi_wp2
   refine zfk hs kp ks kv U.1 U.2 rfl rfl (fun r W=>(quN s↔quN r)∧r.length≤s.length∧m W) (fun W=>quN s∧m W) (fun W=>¬quN s∧m W) (fun r A C h t=>⟨h.1,h.2.1,D A C h.2.2 t⟩) (fun A C h t=>⟨h.1,D A C h.2 t⟩) (fun A C h t=>⟨h.1,D A C h.2 t⟩) ⟨Iff.rfl,Nat.le_refl _,Y⟩
    (fun x=>{ tmps:=#[.agg #[],.string ⟨s.toArray⟩,.pointer (some ⟨w.heap.size,0,none⟩),undef,.pointer (some ⟨w.heap.size+1,0,none⟩),.pointer (some ⟨w.heap.size+1+1,0,none⟩),.string ⟨x.toArray⟩,undef,undef,.string ⟨s.toArray⟩,.bool false,.string ⟨s.toArray⟩,.func (.func 260) #[] #[.pointer (some ⟨bp,0,none⟩),.pointer (some ⟨bs,0,none⟩),.pointer (some ⟨bv,0,none⟩)],.string ⟨x.toArray⟩,undef,undef,undef,undef,undef,undef,undef,undef],defers:=[] }) ?assign ?body ?done ?stop
   case assign=>
    intro l x W K hK
    gi_wp2
    exact hK
   case body=>
    intro l x T W hx F;obtain⟨q,G,al,af,ag⟩:∃q:Prop,(quN s↔(decP x).isSome=true∧q)∧x.length≤s.length∧m W∧∀W',m W'→(quN s↔q)→T W':=by
     rcases F with ⟨b,h,rfl⟩|⟨h,rfl⟩
     ·refine⟨quN b,h.1.trans (zKu hx),?_,h.2.2,fun W' j L=>⟨L,?_,j⟩⟩
      ·have:=h.2.1;simp at this;omega
      ·have:=h.2.1;simp at this;omega
     ·exact⟨True,by rw[h.1,z7I hx];simp,h.2.1,h.2.2,fun W' j L=>⟨L.2 trivial,j⟩⟩
    have hw:=af;rw[i]at hw;obtain⟨a,J,H⟩:=hw;have P:=zJf x W (by omega) (he.below (a.mono he.lt)) (hp.stays a);obtain⟨d,ad⟩:∃d,Hid ((decP x).isSome=d):=⟨_,rfl⟩;rw[ad.out]at P G;generalize (decP x).getD 0=dn at P;clear F hB u M Y D S;have R:=zBq J;have V:=zBq H;cases d with
    |true=>
      gi_wp2_with (refine⟨trivial,?_⟩;gi_at_call 247;refine(CallsIn.inRound l (callsIn_wide.2 P)).mono ?_;rintro e O ⟨rfl,g⟩)
      exact⟨g,ag O (by rw[i];exact⟨a.trans (g.mono a.size),(g.block _ R).trans J,(g.block _ V).trans H⟩) (by rw[G];simp)⟩
    |false=>
      gi_wp2_with (refine⟨trivial,?_⟩;gi_at_call 247;refine(CallsIn.inRound l (callsIn_wide.2 P)).mono ?_;rintro e O ⟨rfl,g⟩;have o:=(g.block _ R).trans J;have f1:=(g.block _ V).trans H;have e0:O.cell? ⟨w.heap.size+1,0,none⟩=some (.string ⟨#[]⟩):=zBk o 0;have e1:O.cell? ⟨w.heap.size+1+1,0,none⟩=some (.bool false):=zBk f1 0;have y0:=zBn o 0;have y1:=zBn f1 0)
      refine⟨⟨by simpa using g.size,fun k j hk=>?_⟩,by rw[G];simp,?_⟩
      ·rw[zRA (by show _≠w.heap.size+1+1;omega),zRA (by show _≠w.heap.size+1;omega)];exact g.block k hk
      rw[i];refine⟨((a.trans (g.mono a.size)).setCell (p:=⟨w.heap.size+1,0,none⟩) (Nat.le_succ _) _).setCell (p:=⟨w.heap.size+1+1,0,none⟩) (Nat.le_add_right _ 2) _,?_,?_⟩
      ·rw[zRA (by show _≠w.heap.size+1+1;omega),zFg o 0 _];rfl
      ·rw[zFg (by rw[zRA (by show _≠w.heap.size+1;omega)];exact f1) 0 _];rfl
   case done=>
    rintro W ⟨hN,N⟩ hK;rw[i]at N;obtain⟨a,o,f1⟩:=N;have e0:W.cell? ⟨w.heap.size+1,0,none⟩=some (.string ⟨#[]⟩):=zBk o 0;have e1:W.cell? ⟨w.heap.size+1+1,0,none⟩=some (.bool false):=zBk f1 0;have y0:=zBn o 0;have y1:=zBn f1 0
    gi_wp2
    have ab:((W.setCell ⟨w.heap.size+1,0,none⟩ (.string ⟨s.toArray⟩)).setCell ⟨w.heap.size+1+1,0,none⟩ (.bool true)).heap[Z.heap.size]?=some (.deferred (some [])):=by
     rw[zRA (by show _≠w.heap.size+1+1;omega),zRA (by show _≠w.heap.size+1;omega)];exact hK
    refine⟨by simp,.inl ⟨_,_,rfl,run_takeDeferred ab,?_⟩⟩;have F:=M true (by simp[hN]);refine⟨_,zbh _ _ (w.heap.size+1) (w.heap.size+1+1) (.string ⟨s.toArray⟩) (.bool true) rfl rfl ?_ ?_,by rw[←u.out,←hB.out,F];rfl,?_⟩
    ·rw[World.putObj_heap_other (by omega),zRA (by show _≠w.heap.size+1+1;omega),zFg o 0 _];rfl
    ·rw[World.putObj_heap_other (by omega),zFg (by rw[zRA (by show _≠w.heap.size+1;omega)];exact f1) 0 _];rfl
    ·exact((a.setCell (p:=⟨w.heap.size+1,0,none⟩) (Nat.le_succ _) _).setCell (p:=⟨w.heap.size+1+1,0,none⟩) (Nat.le_add_right _ 2) _).trans (zyL (by omega) _ _)
   case stop=>
    rintro W ⟨hN,N⟩ hK;rw[i]at N;obtain⟨a,o,f1⟩:=N
    gi_wp2
    refine⟨by simp,.inl ⟨_,_,rfl,run_takeDeferred hK,?_⟩⟩;have F:=M false (by simp[hN]);exact⟨_,zbh _ _ (w.heap.size+1) (w.heap.size+1+1) (.string ⟨#[]⟩) (.bool false) rfl rfl ((World.putObj_heap_other (by omega)).trans o) ((World.putObj_heap_other (by omega)).trans f1),by rw[←u.out,←hB.out,F];rfl,a.trans (zyL (by omega) _ _)⟩
end Go.Proofs.YtoeoinpaidhmcaaGreatDoor.jd
