/- Several texts in one. -/
import Derived.Test.YtbbkihekjdffpaaGreatDoorHistY
set_option maxHeartbeats 8000000
set_option maxRecDepth 100000
namespace Go.Proofs.YtbbkihekjdffpaaGreatDoor
open Go.RowKit Go.Maps
def sRet:List UInt8:=[114,101,116]
def sVal:List UInt8:=[118,97,108]
def zoz (ms:List Mem)(nm:List UInt8):Int:=((z8R ms nm).map (fun m=>m.2.1)).getD 0
def setRet (o:OpV)(line k n:Int):OpV:={ o with ret:=line,vk:=k,vn:=n }
def retP (model:List UInt8)(ops:List OpV)(ms:List Mem)(line:Int):Int×Option (List OpV):=
 match z09 ops (zqd ms sRet)with
 |none=>(7,none)
 |some i=>match ops[i]? with
   |none=>(7,none)
   |some o=>if o.ret≠0 then(7,none)else
     if zIyy (((zco model o.name opTab).map (fun r=>r.2.2.2)).getD 0) (zoz ms sVal)then(0,some (ops.set i (setRet o line (zoz ms sVal) (zqd ms sVal))))else(8,none)
theorem zXV (ms:List Mem)(nm:List UInt8):(z0Q ms (.string nm)).getD (.agg #[.int .i64 0,.int .i64 0,.string ⟨#[]⟩])=.agg #[.int .i64 (zoz ms nm),.int .i64 (zqd ms nm),.string ⟨(zbh ms nm).toArray⟩]:=by
 cases h:z8R ms nm with
 |none=>simp[z0Q,zqd,zbh,zoz,h]
 |some m=>simp[z0Q,zqd,zbh,zoz,h,aggV]
theorem zvc (ops:List OpV)(i:Nat)(h:i<ops.length):∀c,c<10→(opsRow ops)[i*10+c]?=(opvCells ops[i])[c]?:=by
 induction ops generalizing i with
 |nil=>simp at h
 |cons o r ih=>
   intro c hc;have e:opsRow (o::r)=opvCells o++opsRow r:=(by simp[opsRow]);have hl:(opvCells o).length=10:=rfl;rw[e];cases i with
   |zero=>simp only [Nat.zero_mul,Nat.zero_add,List.getElem_cons_zero];rw[List.getElem?_append_left (by omega)]
   |succ i=>
     rw[List.getElem?_append_right (by omega),hl,show(i+1)*10+c-10=i*10+c by omega,ih i (by simpa using h) c hc];rfl
theorem zDA {w:World}{base g cap n:Nat}{xs:List Value}(h:w.ownsRow base 74 10 (.slice (some ⟨g,0,none⟩) n cap) n xs):
 ∀j u,xs[j]?=some u→w.cell? ⟨g,j,none⟩=some u:=by
 intro j u hj;have:=h.cells (g:=g) rfl j u hj;by_cases h0:j=0
 ·subst h0;simpa [Addr.add]using this
 ·simpa [Addr.add,h0]using this
theorem zUj {w:World}{base g cap n:Nat}{e:TypeId}{size:Nat}{xs:List Value}(h:w.ownsRow base e size (.slice (some ⟨g,0,none⟩) n cap) n xs)(j:Nat)(v:Value)(_hj:j<xs.length):
 (w.setCell ⟨g,j,none⟩ v).ownsRow base e size (.slice (some ⟨g,0,none⟩) n cap) n (xs.set j v):=by
 refine⟨by simpa using h.1,?_⟩;rcases h.2 with ⟨h1,_⟩|⟨g',cap',cur,h1,hbg,hg,hnc,hcm,hcs,htake⟩
 ·cases h1
 ·injection h1 with ha _ hcap;injection ha with ha;injection ha with hgg _ _;subst hgg;subst hcap;refine .inr ⟨g,cap,cur.setIfInBounds j v,rfl,hbg,by rw[zFg hg],hnc,hcm,by simpa using hcs,?_⟩;rw[Array.toList_setIfInBounds,List.take_set,htake]
theorem zGr {a b:List Value}{n j:Nat}{v:Value}(h:n=a.length+j):(a++b).set n v=a++b.set j v:=by
 subst h;rw[List.set_append,if_neg (by omega)];simp
theorem zb0 (ops:List OpV)(i:Nat)(h:i<ops.length)(line k n:Int):
 opsRow (ops.set i (setRet ops[i] line k n))=(((opsRow ops).set (i*10+7) (.int .i64 line)).set (i*10+8) (.int .i64 k)).set (i*10+9) (.int .i64 n):=by
 induction ops generalizing i with
 |nil=>simp at h
 |cons o r ih=>
   have e:∀(a:OpV) (l:List OpV),opsRow (a::l)=opvCells a++opsRow l:=fun a l=>(by simp[opsRow]);cases i with
   |zero=>
     simp only [List.getElem_cons_zero,List.set_cons_zero,e];rfl
   |succ i=>
     simp only [List.getElem_cons_succ,List.set_cons_succ,e];rw[ih i (by simpa using h)];have hl:(opvCells o).length=10:=rfl;rw[zGr (j:=i*10+7) (by rw[hl];omega),zGr (j:=i*10+8) (by rw[hl];omega),zGr (j:=i*10+9) (by rw[hl];omega)]
theorem zLW (ops:List OpV)(i:Nat)(h:i<ops.length)(line k n x:Int):z09 (ops.set i (setRet ops[i] line k n)) x=z09 ops x:=by
 unfold z09
 induction ops generalizing i with
 |nil=>simp at h
 |cons o r ih=>
   cases i with
   |zero=>simp[List.findIdx?_cons,setRet]
   |succ i=>
     simp only [List.getElem_cons_succ,List.set_cons_succ,List.findIdx?_cons];rw[ih i (by simpa using h)]
theorem z9I (ops:List OpV)(i:Nat)(h:i<ops.length)(line k n:Int):∀l,idFn ops l=idFn (ops.set i (setRet ops[i] line k n)) l:=by
 intro l;unfold idFn;split
 ·rw[zLW ops i h]
 ·rfl
theorem zZ7E (ops:List OpV)(i:Nat)(h:i<ops.length)(line k n c:Int)(hr:ops[i].ret=0)(hl:line≠0):
 openOf (ops.set i (setRet ops[i] line k n)) c+(if ops[i].cl=c then 1 else 0)=openOf ops c:=by
 unfold openOf
 induction ops generalizing i with
 |nil=>simp at h
 |cons o r ih=>
   cases i with
   |zero=>
     simp only [List.getElem_cons_zero]at hr;simp only [List.getElem_cons_zero,List.set_cons_zero];have e1:((setRet o line k n).cl==c&&(setRet o line k n).ret==0)=false:=(by simp[setRet,hl]);rw[List.filter_cons,List.filter_cons,e1];by_cases hc:o.cl=c
     ·simp[hc,hr]
     ·simp[hc]
   |succ i=>
     simp only [List.getElem_cons_succ]at hr;simp only [List.getElem_cons_succ,List.set_cons_succ];have:=ih i (by simpa using h) hr;rw[List.filter_cons,List.filter_cons];split
     ·simp only [List.length_cons];omega
     ·exact this
open Tryz
theorem zje {m n om on:List UInt8}{nd gv:Int}(h:zco m n opTab=some (om,on,nd,gv)):gv=0∨gv=1∨gv=2∨gv=3∨gv=4:=by
 have hm:(om,on,nd,gv)∈opTab:=List.mem_of_find?_eq_some h;simp[opTab]at hm;omega
theorem MapFn.mono {w:World}{k:TypeId}{b n n' sz:Nat}{f:Lit→Option Value}(h:MapFn w k b n sz f)(hn:n≤n'):MapFn w k b n' sz f:=by
 obtain⟨D,h1,r⟩:=h;exact⟨D,h1.mono hn,r⟩
theorem zFo (ops:List OpV)(c:Int):openOf ops c≤ops.length:=List.length_filter_le _ _
theorem zrV {ops:List OpV}{f:Lit→Option Value}(h:∀c,(f (.int .i64 c)).getD (.int .i64 0)=.int .i64 (openOf ops c))(i:Nat)(hi:i<ops.length)(line k n:Int)(hr:ops[i].ret=0)(hl:line≠0):
 ∀c,(zp1 f ops[i].cl ((openOf ops ops[i].cl:Int)-1) (.int .i64 c)).getD (.int .i64 0)=.int .i64 (openOf (ops.set i (setRet ops[i] line k n)) c):=by
 intro c;have:=zZ7E ops i hi line k n c hr hl;by_cases e:c=ops[i].cl
 ·subst e;rw[zSg];rw[if_pos rfl]at this;simp only [Option.getD_some];congr 1;omega
 ·rw[zPm _ _ _ _ (by intro h';apply e;injection h'),h c];rw[if_neg (fun h=>e h.symm)]at this;congr 1;omega
theorem zGh (m n:List UInt8):((zco m n opTab).map (fun r=>r.2.2.2)).getD 0=0∨((zco m n opTab).map (fun r=>r.2.2.2)).getD 0=1∨((zco m n opTab).map (fun r=>r.2.2.2)).getD 0=2∨((zco m n opTab).map (fun r=>r.2.2.2)).getD 0=3∨((zco m n opTab).map (fun r=>r.2.2.2)).getD 0=4:=by
 cases h:zco m n opTab with
 |none=>simp
 |some r=>obtain⟨a,b,c,d⟩:=r;exact zje h
theorem zCJ (s:ByteArray)(nl:List UInt8)(W1 W:World)(hW:Below W1.heap.size W1 W)(ho:Ops W1)(hng:10≤W1.heap.size):
 Calls prog 114 #[.string s,.string ⟨nl.toArray⟩] W fun e w'=>∃(om on:List UInt8) (nd gv:Int) (ok:Bool),e=.returned (.tuple #[.agg #[.string ⟨om.toArray⟩,.string ⟨on.toArray⟩,.int .u8 nd,.int .u8 gv],.bool ok])∧Below W1.heap.size W1 w'∧
  Hid (gv=((zco s.data.toList nl opTab).map (fun r=>r.2.2.2)).getD 0)∧
  (W.heap[W1.heap.size]?=some (.cells #[.string ⟨#[]⟩,.string ⟨#[]⟩,.int .u8 0,.int .u8 0] 90 (0,0))→ZeroOp w' W1.heap.size):=by
 refine(zoY s ⟨nl.toArray⟩ W (ho.below (hW.mono hng)) (Nat.le_trans hng hW.size)).mono ?_;rintro e w' ⟨hb,⟨o,h1,rfl⟩|⟨h1,rfl⟩⟩
 ·refine⟨o.1,o.2.1,o.2.2.1,o.2.2.2,true,rfl,hW.trans (hb.mono hW.size),by show _=_;rw[show nl=((⟨nl.toArray⟩:ByteArray)).data.toList from rfl,h1];rfl,fun hz=>?_⟩;have hk:=(hb.block W1.heap.size (zBq hz)).trans hz;exact⟨by rw[zBk hk];rfl,by rw[zBk hk];rfl,by rw[zBk hk];rfl,by rw[zBk hk];rfl,zBn hk _,zBn hk _,zBn hk _,zBn hk _,hk⟩
 ·refine⟨[],[],0,0,false,rfl,hW.trans (hb.mono hW.size),by show _=_;rw[show nl=((⟨nl.toArray⟩:ByteArray)).data.toList from rfl,h1];rfl,fun hz=>?_⟩;have hk:=(hb.block W1.heap.size (zBq hz)).trans hz;exact⟨by rw[zBk hk];rfl,by rw[zBk hk];rfl,by rw[zBk hk];rfl,by rw[zBk hk];rfl,zBn hk _,zBn hk _,zBn hk _,zBn hk _,hk⟩
theorem zpC (w:World) (rc b1 b2 base n bm nm sz L:Nat) (v:Value) (model:ByteArray) (ops:List OpV) (ms:List Mem) (line:Int)
 (hr:Rec w rc b1 b2 base n v model ops) (hm:MapFn w 9 bm nm sz (z0Q ms)) (ho:Ops w) (hng:10≤w.heap.size) (hL:L≤rc∧L≤b1∧L≤b2) (hwf:∀nm,(Lit.int .i64 (zqd ms nm)).wf=true) (_hbs:base≤w.heap.size) (hn9:n≤900)
 (hline:line≠0) (hk:zoz ms sVal=0∨zoz ms sVal=1∨zoz ms sVal=2) (_hbmB:bm≠b1∧bm≠b2):
 Calls prog 72 #[.pointer (some ⟨rc,0,none⟩),.map (some bm),.int .i64 line] w fun e w'=>
  e=.returned (.int .i64 (retP model.data.toList ops ms line).1)∧Below L w w'∧(∀o,(retP model.data.toList ops ms line).2=some o→Rec w' rc b1 b2 base (n+1) v model o):=by
 have l1:=zXV ms sRet;have l2:=zXV ms sVal;have r1:=(hm.below ((Below.refl w.heap.size w).drew)).run1 lawS underlying144 (z7H _) (zjt (s:=⟨#[114,101,116]⟩) (by decide));rw[show((⟨#[114,101,116]⟩:ByteArray)).data.toList=sRet from rfl,l1]at r1;have wf1:=hwf sRet;have hf0:=zLY;have hf2:=zwU;obtain⟨sz1,hid1⟩:=hr.ids;have hrcw:=zBq hr.blk;have hb1w:=hid1.lt;have hb2w:b2<w.heap.size:=by obtain⟨_,_,h,_⟩:=hr.opn;exact h.lt
 have hLw:L≤w.heap.size:=by omega
 have hlk:=(hid1.below ((Below.refl w.heap.size w).drew)).runOk lawI underlying92 (zG7 _) (zxZ wf1);have e1:w.cell? ⟨rc,1,none⟩=some v:=by rw[zBk hr.blk];rfl
 have e2:w.cell? ⟨rc,2,none⟩=some (.map (some b1)):=by rw[zBk hr.blk];rfl
 have HP:Hid (retP model.data.toList ops ms line=(match z09 ops (zqd ms sRet)with
  |none=>(7,none)
  |some i=>match ops[i]? with
    |none=>(7,none)
    |some o=>if o.ret≠0 then(7,none)else
      if zIyy (((zco model.data.toList o.name opTab).map (fun r=>r.2.2.2)).getD 0) (zoz ms sVal)then(0,some (ops.set i (setRet o line (zoz ms sVal) (zqd ms sVal))))else(8,none))):=rfl
 have wfv:=hwf sVal;clear hwf l1;generalize zqd ms sRet=o1 at*;cases hid:z09 ops o1 with
 |none=>
   have hX:Hid (retP model.data.toList ops ms line=(7,none)):=(by rw[HP.out,hid];exact rfl);have ei:idFn ops (.int .i64 o1)=none:=(by simp[idFn,hid]);simp only [ei,Option.getD_none,Option.isSome_none]at hlk;clear ei HP hid hid1 l2 hm hr ho;go_enter func72,ntmps72;go_wp2;go_region
   all_goals
    go_wp2;go_ret;exact⟨by rw[hX.out];rfl,(zD).drew,by rw[hX.out];intro o h;cases h⟩
 |some i=>
   have hil:i<ops.length:=by
    unfold z09 at hid;have:=List.findIdx?_eq_some_iff_findIdx_eq.1 hid;exact this.1
   have ei:idFn ops (.int .i64 o1)=some (.int .i64 (i:Int)):=(by simp[idFn,hid]);simp only [ei,Option.getD_some,Option.isSome_some]at hlk;have HP2:Hid (retP model.data.toList ops ms line=(if ops[i].ret≠0 then(7,none)else
    if zIyy (((zco model.data.toList ops[i].name opTab).map (fun r=>r.2.2.2)).getD 0) (zoz ms sVal)then(0,some (ops.set i (setRet ops[i] line (zoz ms sVal) (zqd ms sVal))))else(8,none))):=by
    have h:=HP.out;rw[hid]at h;simp only [zC hil]at h;exact h
   -- the row of operations
   obtain⟨g,cap,rfl⟩:∃g cap,v=.slice (some ⟨g,0,none⟩) ops.length cap:=by
    rcases hr.own.2 with ⟨_,h0⟩|⟨g,cap,cur,h1,_⟩
    ·omega
    ·exact⟨g,cap,h1⟩
   have hrow:=zYv hr.own g rfl;have hgw:g<w.heap.size:=(hr.own.lt g rfl).2;have hcell:∀c u,c<10→(opvCells ops[i])[c]?=some u→w.cell? ⟨g,i*10+c,none⟩=some u:=fun c u hc hu=>zDA hr.own _ _ ((zvc ops i hil c hc).trans hu);have q0:=hcell 0 _ (by omega) rfl;have q1:=hcell 1 _ (by omega) rfl;have q2:=hcell 2 _ (by omega) rfl;have q3:=hcell 3 _ (by omega) rfl;have q4:=hcell 4 _ (by omega) rfl;have q5:=hcell 5 _ (by omega) rfl;have q6:=hcell 6 _ (by omega) rfl;have q7:=hcell 7 _ (by omega) rfl;have q8:=hcell 8 _ (by omega) rfl;have q9:=hcell 9 _ (by omega) rfl;rw[Nat.add_zero]at q0;have hfew:=hr.few;have hii:(i:Int)<(ops.length:Int):=(by omega);have hwfc:=hr.wfs ops[i] (List.getElem_mem hil);clear hcell ei hid HP;go_enter func72,ntmps72;go_wp2;go_cut [7,8] (fun a b wx=>a=.int .i64 (i:Int)∧b=.bool true∧wx=w.drew)
   case first=>
    go_region
    all_goals
     go_wp2_with fail;go_meet;exact⟨rfl,rfl,rfl⟩
   case rest=>
    obtain⟨rfl,rfl,rfl⟩:=hcut;clear hlk r1;by_cases hret:ops[i].ret=0
    ·have hrb:(ops[i].ret != 0)=false:=(by simp[hret]);have HP3:Hid (retP model.data.toList ops ms line=(if zIyy (((zco model.data.toList ops[i].name opTab).map (fun r=>r.2.2.2)).getD 0) (zoz ms sVal)then(0,some (ops.set i (setRet ops[i] line (zoz ms sVal) (zqd ms sVal))))else(8,none))):=by
      rw[HP2.out,if_neg (by simp[hret])];exact rfl
     have HRET:Hid (ops[i].ret=0):=hret;clear HP2 hret;go_wp2;clear e1 e2 hf2 q0 q1 q2 q3 q4 q5 q6 q7 q8 q9 hii hrb;generalize ops[i].id=oid at*;generalize ops[i].name=onm at*;generalize ops[i].key=oky at*;generalize ops[i].arg=oag at*;generalize ops[i].exp=oex at*;generalize ops[i].call=ocl at*;generalize ops[i].vk=ovk at*;generalize ops[i].vn=ovn at*;have W1b:((w.alloc (.cells #[.int .i64 oid,.int .i64 ops[i].cl,.string ⟨onm.toArray⟩,.string ⟨oky.toArray⟩,.int .i64 oag,.int .i64 oex,.int .i64 ocl,.int .i64 ops[i].ret,.int .i64 ovk,.int .i64 ovn] 74)).drew).heap[w.heap.size]?=some (.cells #[.int .i64 oid,.int .i64 ops[i].cl,.string ⟨onm.toArray⟩,.string ⟨oky.toArray⟩,.int .i64 oag,.int .i64 oex,.int .i64 ocl,.int .i64 ops[i].ret,.int .i64 ovk,.int .i64 ovn] 74):=ziF w _ w.heap.size rfl;have hbl1:Below w.heap.size w ((w.alloc (.cells #[.int .i64 oid,.int .i64 ops[i].cl,.string ⟨onm.toArray⟩,.string ⟨oky.toArray⟩,.int .i64 oag,.int .i64 oex,.int .i64 ocl,.int .i64 ops[i].ret,.int .i64 ovk,.int .i64 ovn] 74)).drew):=(zA _ _).drew;generalize (w.alloc (.cells #[.int .i64 oid,.int .i64 ops[i].cl,.string ⟨onm.toArray⟩,.string ⟨oky.toArray⟩,.int .i64 oag,.int .i64 oex,.int .i64 ocl,.int .i64 ops[i].ret,.int .i64 ovk,.int .i64 ovn] 74)).drew=W1 at*;have hr1:=hr.below hbl1;have hm1:=hm.below hbl1;have ho1:Ops W1:=ho.below (hbl1.mono hng);have hsz1:=hbl1.size;have c0:W1.cell? ⟨rc,0,none⟩=some (.string model):=(by rw[zBk hr1.blk];rfl);have d2:W1.cell? ⟨w.heap.size,2,none⟩=some (.string ⟨onm.toArray⟩):=(by rw[zBk W1b];rfl);have hltO:=zBq W1b;have hltR:=zBq hr1.blk;have hneO:w.heap.size≠W1.heap.size:=(by omega);have hneR:rc≠W1.heap.size:=(by omega);have hA1:Below W1.heap.size W1 W1.drew:=(zD).drew;have hA2:∀o,Below W1.heap.size W1 (W1.alloc o).drew:=fun o=>((zD).alloc zG o).drew;go_cut [10,11] (fun p8 ok wx=>∃(pb:Nat) (om on:List UInt8) (nd gv:Int) (okb:Bool),p8=.pointer (some ⟨pb,0,none⟩)∧ok=.bool okb∧Below W1.heap.size W1 wx∧W1.heap.size≤pb∧
      wx.heap[pb]?=some (.cells #[.string ⟨om.toArray⟩,.string ⟨on.toArray⟩,.int .u8 nd,.int .u8 gv] 90 (0,0))∧gv=((zco model.data.toList onm opTab).map (fun r=>r.2.2.2)).getD 0)
     case first=>
      clear hr hm hid1 hr1 hm1 W1b hbl1 HP3 HRET hrow hgw hfew hwfc hf0 l2 wfv hk hline _hbmB hL _hbs hn9 hLw hb1w hb2w hrcw wf1 ho;go_region_with (go_at_call 114;refine(zCJ model onm W1 _ (by first|exact hA1|exact hA2 _) ho1 (by omega)).mono ?_;rintro e w2 ⟨om,on,nd,gv,ok,rfl,hbl2,hfd,hz⟩;try (have hz':=hz (ziF W1 _ _ rfl);obtain⟨z0,z1,z2,z3,y0,y1,y2,y3,yb⟩:=hz');clear hz)
      all_goals
       go_wp2_with fail;go_meet
       first
        | exact⟨w2.heap.size,om,on,nd,gv,ok,rfl,rfl,hbl2.alloc hbl2.size _,hbl2.size,ziF _ _ _ rfl,hfd.out⟩
        | exact⟨W1.heap.size,om,on,nd,gv,ok,rfl,rfl,zmi hbl2 zG _ _ _ _,Nat.le_refl _,blk4 yb _ _ _ _,hfd.out⟩
     case rest=>
      obtain⟨pb,om,on,nd,gv,okb,rfl,rfl,hbl2,hpb,hob,hgv⟩:=hcut;have HGV:Hid (gv=((zco model.data.toList onm opTab).map (fun r=>r.2.2.2)).getD 0):=hgv;have hg5:=zGh model.data.toList onm;rw[←hgv]at hg5;have hm2:=hm1.below hbl2;have hr2:=hr1.below hbl2;have hz2:=hbl2.size;have W2b:=(hbl2.block w.heap.size hltO).trans W1b;have hltP:=zBq hob;have hbl:Below w.heap.size w wc:=hbl1.trans (hbl2.mono (by omega));have m0:wc.cell? ⟨pb,0,none⟩=some (.string ⟨om.toArray⟩):=(by rw[zBk hob];rfl);have m1:wc.cell? ⟨pb,1,none⟩=some (.string ⟨on.toArray⟩):=(by rw[zBk hob];rfl);have m2:wc.cell? ⟨pb,2,none⟩=some (.int .u8 nd):=(by rw[zBk hob];rfl);have m3:wc.cell? ⟨pb,3,none⟩=some (.int .u8 gv):=(by rw[zBk hob];rfl);have rv:=hm2.run1 lawS underlying144 (z7H _) (zjt (s:=⟨#[118,97,108]⟩) (by decide));rw[show((⟨#[118,97,108]⟩:ByteArray)).data.toList=sVal from rfl,l2]at rv;clear hob hA1 hA2 d2 c0 hneO hneR W1b hgv hm1 hr1 hm hr hbl1 hbl2 l2 hm2 hid1;generalize zoz ms sVal=kd at*;generalize zqd ms sVal=vn at*;go_wp2_with fail;refine(zAh ⟨om.toArray⟩ ⟨on.toArray⟩ nd gv kd _ hg5 hk).mono ?_;rintro e w4 ⟨rfl,hb4⟩;have hb40:Below wc.heap.size wc w4:=(zA _ _).trans (hb4.mono (by simp));have V4:w4.heap[wc.heap.size]?=some (.cells #[.int .i64 kd,.int .i64 vn] 72):=(hb4.block wc.heap.size (by simp)).trans (ziF _ _ _ rfl);have hr4:=hr2.below hb40;have O4:=(hb40.block w.heap.size (by omega)).trans W2b;have hbl4:Below w.heap.size w w4:=hbl.trans (hb40.mono (by omega));have z4:=hb40.size;clear hb4 hb40 hr2 W2b hbl m0 m1 m2 m3 rv;cases hmg:zIyy gv kd with
      |false=>
        have hX:Hid (retP model.data.toList ops ms line=(8,none)):=(by rw[HP3.out,←HGV.out,hmg];exact rfl);clear hmg HP3 hr4;go_wp2;go_ret;exact⟨by rw[hX.out];rfl,hbl4.mono hLw,by rw[hX.out];intro o h;cases h⟩
      |true=>
        have hX:Hid (retP model.data.toList ops ms line=(0,some (ops.set i (setRet ops[i] line kd vn)))):=(by rw[HP3.out,←HGV.out,hmg];exact rfl);clear hmg HP3 HGV;have hcell:∀c u,c<10→(opvCells ops[i])[c]?=some u→w4.cell? ⟨g,i*10+c,none⟩=some u:=fun c u hc hu=>zDA hr4.own _ _ ((zvc ops i hil c hc).trans hu);have q7:=hcell 7 _ (by omega) rfl;have q8:=hcell 8 _ (by omega) rfl;have q9:=hcell 9 _ (by omega) rfl;have hgb:∃cur,w4.heap[g]?=some (.cells cur 74 (0,0)):=by
         rcases hr4.own.2 with ⟨h1,_⟩|⟨g',cap',cur,h1,_,hg,_⟩
         ·cases h1
         ·simp at h1;rw[h1.1];exact⟨cur,hg⟩
        obtain⟨cur,hgb⟩:=hgb;have fz:∀j,w4.frozen? ⟨g,j,none⟩=false:=fun j=>zBn hgb j;have f7:=fz (i*10+7);have f8:=fz (i*10+8);have f9:=fz (i*10+9);have x1:w4.cell? ⟨rc,1,none⟩=some (.slice (some ⟨g,0,none⟩) ops.length cap):=(by rw[zBk hr4.blk];rfl);have v0:w4.cell? ⟨wc.heap.size,0,none⟩=some (.int .i64 kd):=(by rw[zBk V4];rfl);have v1:w4.cell? ⟨wc.heap.size,1,none⟩=some (.int .i64 vn):=(by rw[zBk V4];rfl);have n1:rc≠g:=(by have:=hr4.lt1;omega);have n2:wc.heap.size≠g:=(by omega);have hii:(i:Int)<(ops.length:Int):=(by omega);clear hcell fz;go_wp2;go_cut [6] (fun a wx=>a=.int .i64 0∧wx=((((w4.setCell ⟨g,i*10+7,none⟩ (.int .i64 line)).setCell ⟨g,i*10+8,none⟩ (.int .i64 kd)).setCell ⟨g,i*10+9,none⟩ (.int .i64 vn)).drew))
        case first=>
         go_region
         all_goals
          go_wp2_with fail;go_meet;exact⟨rfl,rfl⟩
        case rest=>
         obtain⟨rfl,rfl⟩:=hcut;have hlen:(opsRow ops).length=ops.length*10:=hr4.own.1;have own6:(((((w4.setCell ⟨g,i*10+7,none⟩ (.int .i64 line)).setCell ⟨g,i*10+8,none⟩ (.int .i64 kd)).setCell ⟨g,i*10+9,none⟩ (.int .i64 vn)).drew)).ownsRow base 74 10 (.slice (some ⟨g,0,none⟩) ops.length cap) ops.length (opsRow (ops.set i (setRet ops[i] line kd vn))):=by
          rw[zb0 ops i hil];exact zUj (zUj (zUj hr4.own (i*10+7) _ (by omega)) (i*10+8) _ (by simp;omega)) (i*10+9) _ (by simp;omega)
         have k6:Kept [g] w4 ((((w4.setCell ⟨g,i*10+7,none⟩ (.int .i64 line)).setCell ⟨g,i*10+8,none⟩ (.int .i64 kd)).setCell ⟨g,i*10+9,none⟩ (.int .i64 vn)).drew):=((((Kept.refl _ _).setCell (p:=⟨g,i*10+7,none⟩) (Or.inl (by simp)) _).setCell (p:=⟨g,i*10+8,none⟩) (Or.inl (by simp)) _).setCell (p:=⟨g,i*10+9,none⟩) (Or.inl (by simp)) _).drew;have hnes:rc≠b1∧rc≠b2∧b1≠b2∧rc<base∧b1<base∧b2<base:=⟨hr4.ne1,hr4.ne2,hr4.ne3,hr4.lt1,hr4.lt2,hr4.lt3⟩;have hbl6:Below L w ((((w4.setCell ⟨g,i*10+7,none⟩ (.int .i64 line)).setCell ⟨g,i*10+8,none⟩ (.int .i64 kd)).setCell ⟨g,i*10+9,none⟩ (.int .i64 vn)).drew):=(hbl4.mono hLw).trans (k6.below (by omega) (by simp;omega));have R6:=(k6.block rc (zBq hr4.blk) (by simp;omega)).trans hr4.blk;have O6:=(k6.block w.heap.size (zBq O4) (by simp;omega)).trans O4;obtain⟨sz1,hid4⟩:=hr4.ids;obtain⟨sz2,f2,hop4,hcnt⟩:=hr4.opn;have hid6:=hid4.kept k6 (by simp;omega);have hop6:=hop4.kept k6 (by simp;omega);have hwfs:=hr4.wfs;have z6:=k6.size;clear k6 q7 q8 q9 f7 f8 f9 x1 v0 v1 hgb V4 O4 hr4 hid4 hop4 hbl4;generalize ((((w4.setCell ⟨g,i*10+7,none⟩ (.int .i64 line)).setCell ⟨g,i*10+8,none⟩ (.int .i64 kd)).setCell ⟨g,i*10+9,none⟩ (.int .i64 vn)).drew)=W6 at*;have y3:W6.cell? ⟨rc,3,none⟩=some (.map (some b2)):=(by rw[zBk R6];rfl);have y1:W6.cell? ⟨w.heap.size,1,none⟩=some (.int .i64 ops[i].cl):=(by rw[zBk O6];rfl);have hlk3:=(hop6.below ((Below.refl W6.heap.size W6).drew)).run1 lawI underlying92 (zG7 _) (zxZ hwfc);rw[hcnt ops[i].cl]at hlk3;have hole:=zFo ops ops[i].cl;obtain⟨w7,hput,hop7,hk7⟩:=(hop6.below ((Below.refl W6.heap.size W6).drew)).runPut lawI underlying92 (by unfold maxLen;omega) (.int .i64 ((openOf ops ops[i].cl:Int)-1)) (zxZ hwfc) trivial (zp1 f2 ops[i].cl ((openOf ops ops[i].cl:Int)-1)) (zSg _ _ _) (zPm _ _ _);go_wp2;go_cut [6] (fun a wx=>a=.int .i64 0∧w7=wx)
         case first=>
          go_region
          all_goals
           go_wp2_with fail;go_meet;exact⟨rfl,rfl⟩
         case rest=>
          obtain⟨rfl,rfl⟩:=hcut;have k7:Kept [b2] W6 w7:=⟨hk7.os,hk7.tape,hk7.output,hk7.size,hk7.block⟩;clear hput hlk3 hk7;go_wp2;go_ret;refine⟨by rw[hX.out];rfl,hbl6.trans (k7.below (by omega) (by simp;omega)),?_⟩;intro o ho;rw[hX.out]at ho;obtain rfl:ops.set i (setRet ops[i] line kd vn)=o:=Option.some.inj ho;refine⟨(k7.block rc (zBq R6) (by simp;omega)).trans R6,?_,⟨_,((hid6.kept k7 (by simp;omega)).mono (by omega)).congr (z9I ops i hil line kd vn)⟩,⟨_,_,hop7,zrV hcnt i hil line kd vn HRET.out hline⟩,by omega,by omega,by omega,by omega,by omega,by omega,by simp;omega,?_⟩
          ·have:=zzF own6 k7 (by simp;omega);simpa using this
          ·intro o' ho';rcases List.mem_or_eq_of_mem_set ho' with h|h
           ·exact hwfs o' h
           ·rw[h];exact hwfc
    ·have hrb:(ops[i].ret != 0)=true:=(by simp[hret]);have hX:Hid (retP model.data.toList ops ms line=(7,none)):=(by rw[HP2.out,if_pos hret];exact rfl);clear HP2 hret hid1 hr hm ho;go_wp2;go_ret;exact⟨by rw[hX.out];rfl,(zD).drew,by rw[hX.out];intro o h;cases h⟩
def addP (model:List UInt8)(ops:List OpV)(s:ByteArray)(line:Int):Int×Option (List OpV):=
 match zIo s with
 |none=>(2,none)
 |some ms=>if za6 ms then(if z5q ms callSlots then((zRl model ops ms line).1,(zRl model ops ms line).2.map (fun o=>ops++[o]))else if z5q ms retSlots then retP model ops ms line else(3,none))else(3,none)
theorem z1e4 {ms:List Mem}{nm:List UInt8}{m:Mem}(h:z8R ms nm=some m):m∈ms:=List.mem_of_find?_eq_some h
theorem zGW {ms:List Mem}{N:Nat}(h:∀m∈ms,zhZ N m)(nm:List UInt8):(Lit.int .i64 (zqd ms nm)).wf=true:=by
 have: -9223372036854775808≤zqd ms nm∧zqd ms nm≤9223372036854775807:=by
  unfold zqd;cases hf:z8R ms nm with
  |none=>exact⟨by decide,by decide⟩
  |some m=>exact(h m (z1e4 hf)).2
 exact WalkArith.wf_i64 (by omega)
theorem zzW {ms:List Mem}(h:z5q ms retSlots=true):zoz ms sVal=0∨zoz ms sVal=1∨zoz ms sVal=2:=by
 unfold z5q at h;unfold retSlots at h;rw[zmy]at h;cases h1:z8R ms [114,101,116]with
 |none=>simp[h1]at h
 |some m1=>
   simp only [h1]at h;by_cases hk:([1]:List Int).contains m1.2.1=true
   ·rw[if_pos hk,zmy]at h;cases h2:z8R ms [118,97,108]with
    |none=>simp[h2]at h
    |some m2=>
      simp only [h2]at h;by_cases hk2:([0,1,2]:List Int).contains m2.2.1=true
      ·have e:zoz ms sVal=m2.2.1:=(by unfold zoz sVal;rw[h2];rfl);rw[e];simpa using hk2
      ·rw[if_neg hk2]at h;cases h
   ·rw[if_neg hk]at h;cases h
theorem add_any (w:World) (rc b1 b2 base n L:Nat) (v:Value) (model:ByteArray) (ops:List OpV) (s:ByteArray) (line:Int)
 (hr:Rec w rc b1 b2 base n v model ops) (ho:Ops w) (he:Errs w) (hu:Utf w) (hL:L≤rc∧L≤b1∧L≤b2) (hN:10≤L) (hbs:base≤w.heap.size) (hn9:n≤900) (hline:line≠0) (hs:s.size≤2000000):
 Calls Tryz.prog 42 #[.pointer (some ⟨rc,0,none⟩),.string s,.int .i64 line] w fun e w'=>
  e=.returned (.int .i64 (addP model.data.toList ops s line).1)∧Below L w w'∧(∀o,(addP model.data.toList ops s line).2=some o→∃v',Rec w' rc b1 b2 base (n+1) v' model o):=by
 have hrcw:=zBq hr.blk;have hb1w:b1<w.heap.size:=by obtain⟨_,h⟩:=hr.ids;exact h.lt
 have hb2w:b2<w.heap.size:=by obtain⟨_,_,h,_⟩:=hr.opn;exact h.lt
 have hng:=he.lt;have hLw:L≤w.heap.size:=by omega
 go_enter Tryz.func42,Tryz.ntmps42;go_wp2_with fail;refine(zVM s _ hs he hu).mono ?_;rintro e w1 ⟨hb1,⟨ms,v1,hl,hml,hown,rfl⟩|⟨hl,rfl⟩⟩
 ·have hgood:=zau hl;have HL:Hid (addP model.data.toList ops s line=if za6 ms then(if z5q ms callSlots then((zRl model.data.toList ops ms line).1,(zRl model.data.toList ops ms line).2.map (fun o=>ops++[o]))else if z5q ms retSlots then retP model.data.toList ops ms line else(3,none))else(3,none)):=by
   unfold addP;rw[hl];exact rfl
  have hr1:=hr.below hb1;clear hl hr;go_wp2_with fail;refine(zfv w1 _ v1 ms hown (by omega) (fun m hm=>by have:=(hgood m hm).1;omega)).mono ?_;rintro e w2 ⟨hb2,⟨hnm,hmap,rfl⟩|⟨hnm,rfl⟩⟩
  ·have hr2:=hr1.below hb2;have HL2:Hid (addP model.data.toList ops s line=if z5q ms callSlots then((zRl model.data.toList ops ms line).1,(zRl model.data.toList ops ms line).2.map (fun o=>ops++[o]))else if z5q ms retSlots then retP model.data.toList ops ms line else(3,none)):=by
    rw[HL.out,if_pos hnm];exact rfl
   have z1:=hb1.size;have z2:=hb2.size;have hblm:w1.heap.size<w2.heap.size:=hmap.lt;have hbl2:Below w.heap.size w w2:=hb1.trans (hb2.mono z1);clear HL hnm hown hr1;go_wp2_with fail;refine(zcO w2).mono ?_;rintro e w3 ⟨g3,rfl,hg3,hg3',hb3,hsh3⟩;have hmap3:=hmap.below hb3;have hr3:=hr2.below hb3;have z3:=hb3.size;go_wp2_with fail;refine(zBH w3 w1.heap.size ms.length g3 6 ms callSlots hmap3 hg3' hsh3 (by decide) (by omega) (by decide)).mono ?_;rintro e w4 ⟨rfl,hb4⟩;have hmap4:=hmap3.below hb4;have hr4:=hr3.below hb4;have z4:=hb4.size;have hbl4:Below w.heap.size w w4:=(hbl2.trans (hb3.mono (by omega))).trans (hb4.mono (by omega));clear hmap hr2 hmap3 hr3 hsh3 hb3 hb4;cases hf:z5q ms callSlots with
   |true=>
     have HL3:Hid (addP model.data.toList ops s line=((zRl model.data.toList ops ms line).1,(zRl model.data.toList ops ms line).2.map (fun o=>ops++[o]))):=(by rw[HL2.out,if_pos hf];exact rfl);clear hf HL2;go_wp2_with fail;refine(zEg w4 rc b1 b2 base n w1.heap.size ms.length ms.length L v model ops ms line hr4 hmap4 (ho.below (hbl4.mono (by omega))) (by omega) hL (zGW hgood) (by omega) hn9).mono ?_;rintro e w5 ⟨rfl,hb5,hrec⟩;go_wp2;go_ret;refine⟨by rw[HL3.out];rfl,(hbl4.mono hLw).trans hb5,?_⟩;intro o ho';rw[HL3.out]at ho';obtain⟨x,hx,rfl⟩:=Option.map_eq_some_iff.1 ho';exact hrec x hx
   |false=>
     have HL3:Hid (addP model.data.toList ops s line=if z5q ms retSlots then retP model.data.toList ops ms line else(3,none)):=(by rw[HL2.out,hf];exact rfl);clear hf HL2;go_wp2_with fail;refine(zRx w4).mono ?_;rintro e w5 ⟨g5,rfl,hg5,hg5',hb5,hsh5⟩;have hmap5:=hmap4.below hb5;have hr5:=hr4.below hb5;have z5:=hb5.size;go_wp2_with fail;refine(zBH w5 w1.heap.size ms.length g5 2 ms retSlots hmap5 hg5' hsh5 (by decide) (by omega) (by decide)).mono ?_;rintro e w6 ⟨rfl,hb6⟩;have hmap6:=hmap5.below hb6;have hr6:=hr5.below hb6;have z6:=hb6.size;have hbl6:Below w.heap.size w w6:=(hbl4.trans (hb5.mono (by omega))).trans (hb6.mono (by omega));clear hmap4 hr4 hmap5 hr5 hsh5 hb5 hb6 hbl4;cases hf:z5q ms retSlots with
     |true=>
       have HL4:Hid (addP model.data.toList ops s line=retP model.data.toList ops ms line):=(by rw[HL3.out,if_pos hf];exact rfl);have hkd:=zzW hf;clear hf HL3;go_wp2_with fail;refine(zpC w6 rc b1 b2 base n w1.heap.size ms.length ms.length L v model ops ms line hr6 hmap6 (ho.below (hbl6.mono (by omega))) (by omega) hL (zGW hgood) (by omega) hn9 hline hkd (by omega)).mono ?_;rintro e w7 ⟨rfl,hb7,hrec⟩;go_wp2;go_ret;refine⟨by rw[HL4.out];rfl,(hbl6.mono hLw).trans hb7,?_⟩;intro o ho';rw[HL4.out]at ho';exact⟨_,hrec o ho'⟩
     |false=>
       have HL4:Hid (addP model.data.toList ops s line=(3,none)):=(by rw[HL3.out,hf];exact rfl);clear hf HL3;go_wp2;go_ret;exact⟨by rw[HL4.out];rfl,hbl6.mono hLw,by rw[HL4.out];intro o h;cases h⟩
  ·have HL2:Hid (addP model.data.toList ops s line=(3,none)):=(by rw[HL.out,hnm];exact rfl);clear HL hnm hown hr1;have z1:=hb1.size;go_wp2;go_ret;exact⟨by rw[HL2.out];rfl,(hb1.mono hLw).trans (hb2.mono (by omega)),by rw[HL2.out];intro o h;cases h⟩
 ·have HL:Hid (addP model.data.toList ops s line=(2,none)):=by unfold addP;rw[hl];exact rfl
  clear hl hr;go_wp2;go_ret;exact⟨by rw[HL.out];rfl,hb1.mono hLw,by rw[HL.out];intro o h;cases h⟩
theorem z7C (model:List UInt8)(ops:List OpV)(ms:List Mem)(line:Int):((zRl model ops ms line).1=0∧(zRl model ops ms line).2.isSome)∨((zRl model ops ms line).1≠0∧(zRl model ops ms line).2=none):=by
 unfold zRl;simp only;split
 ·right;exact⟨by decide,rfl⟩
 ·split
  ·split
   ·right;exact⟨by decide,rfl⟩
   ·split
    ·right;exact⟨by decide,rfl⟩
    ·left;exact⟨rfl,rfl⟩
  ·right;exact⟨by decide,rfl⟩
theorem zHh (model:List UInt8)(ops:List OpV)(ms:List Mem)(line:Int):((retP model ops ms line).1=0∧(retP model ops ms line).2.isSome)∨((retP model ops ms line).1≠0∧(retP model ops ms line).2=none):=by
 unfold retP;split
 ·right;exact⟨by decide,rfl⟩
 ·split
  ·right;exact⟨by decide,rfl⟩
  ·split
   ·right;exact⟨by decide,rfl⟩
   ·split
    ·left;exact⟨rfl,rfl⟩
    ·right;exact⟨by decide,rfl⟩
theorem zIME (model:List UInt8)(ops:List OpV)(s:ByteArray)(line:Int):((addP model ops s line).1=0∧(addP model ops s line).2.isSome)∨((addP model ops s line).1≠0∧(addP model ops s line).2=none):=by
 unfold addP;split
 ·right;exact⟨by decide,rfl⟩
 ·rename_i ms _;split
  ·split
   ·rcases z7C model ops ms line with ⟨h1,h2⟩|⟨h1,h2⟩
    ·left;exact⟨h1,by simpa using h2⟩
    ·right;exact⟨h1,by simp[h2]⟩
   ·split
    ·exact zHh model ops ms line
    ·right;exact⟨by decide,rfl⟩
  ·right;exact⟨by decide,rfl⟩
def zIn (model:List UInt8):Nat→List OpV→List UInt8→Nat→List OpV ⊕ (Int×Int)
 |0,_,_,k=>.inr ((k:Int),1)
 |f+1,ops,t,k=>if t=[]then .inl ops else if f=0 then .inr (((k:Int)+1),1)else
   match addP model ops ⟨(Lib.cut t [10]).1.toArray⟩ ((k:Int)+1)with
   |(r,none)=>.inr (((k:Int)+1),r)
   |(_,some ops')=>zIn model f ops' (Lib.cut t [10]).2.1 (k+1)
def z9w (model t:List UInt8):List OpV ⊕ (Int×Int):=zIn model 129 [] t 0
def zys (model t:List UInt8)(w:World)(e:Ending)(w':World):Prop:=
 Below w.heap.size w w'∧((∃ops v,z9w model t=.inl ops∧ops.length≤128∧w'.ownsRow w.heap.size 74 10 v ops.length (opsRow ops)∧e=.returned (.tuple #[v,.int .i64 0,.int .i64 0]))∨
  (∃l r,z9w model t=.inr (l,r)∧e=.returned (.tuple #[.slice none 0 0,.int .i64 l,.int .i64 r])))
structure Glob (w:World):Prop where
 ops:Ops w
 errs:Errs w
 utf:Utf w
 mx:∃m,w.cell? ⟨3,0,none⟩=some (.int .i64 m)
theorem Glob.below {w w':World}(h:Glob w)(k:Below 10 w w'):Glob w':=by
 obtain⟨m,hm⟩:=h.mx;exact⟨h.ops.below k,h.errs.below k,h.utf.below k,m,(k.cell (p:=⟨3,0,none⟩) (by show 3<10;omega)).trans hm⟩
theorem zug:∀x,(none:Option Value)=idFn [] x:=by
 intro x;unfold idFn;split<;>rfl
theorem zEY (t:List UInt8):(Lib.cut t [10]).1.length≤t.length∧(Lib.cut t [10]).2.1.length≤t.length:=by
 unfold Lib.cut;split
 ·constructor
  ·simp;omega
  ·simp
 ·exact⟨Nat.le_refl _,by simp⟩
theorem zyp (t model:ByteArray)(w:World)(hg:Glob w)(ht:t.size≤2000000):
 Calls prog 19 #[.string t,.string model] w fun e w'=>zys model.data.toList t.data.toList w e w':=by
 have hmm:=@run_makeMap prog;have hng:=hg.errs.lt;go_enter func19,ntmps19;go_wp2;go_loopw [0,8] (fun tx nu wr=>∃(k f n:Nat) (tt:ByteArray) (ops:List OpV) (v:Value),tx=.string tt∧nu=.int .i64 ((k:Int)+1)∧k+f=129∧1≤f∧n≤k∧tt.size≤2000000∧zIn model.data.toList f ops tt.data.toList k=z9w model.data.toList t.data.toList∧
  Rec wr (w.heap.size+2) w.heap.size (w.heap.size+1) (w.heap.size+3) n v model ops∧Below w.heap.size w wr∧w.heap.size+3≤wr.heap.size) (fun _ nu _=>130-(intOf nu).toNat)
 case atStart=>
  refine⟨0,129,0,t,[],.slice none 0 0,rfl,by go_num,by omega,by omega,by omega,ht,rfl,?_,(((zA _ _).alloc (by simp) _).alloc (by simp;omega) _),by simp⟩;have m1:MapFn (((w.alloc (.map #[] 0)).alloc (.map #[] 0)).alloc (.cells #[.string model,.slice none 0 0,.map (some w.heap.size),.map (some (w.heap.size+1))] 94)) 2 w.heap.size 0 0 (fun _=>none):=((MapFn.made w _).alloc _).alloc _;have m2:MapFn (((w.alloc (.map #[] 0)).alloc (.map #[] 0)).alloc (.cells #[.string model,.slice none 0 0,.map (some w.heap.size),.map (some (w.heap.size+1))] 94)) 2 (w.heap.size+1) 0 0 (fun _=>none):=by
   have:=(MapFn.made (w.alloc (.map #[] 0)) 2).alloc (.cells #[.string model,.slice none 0 0,.map (some w.heap.size),.map (some (w.heap.size+1))] 94);simpa using this
  exact⟨ziF _ _ _ (by simp),World.ownsRow_nil _ _ _ _,⟨0,m1.congr zug⟩,⟨0,_,m2,fun c=>rfl⟩,by omega,by omega,by omega,by omega,by omega,by omega,by simp,by simp⟩
 case round=>
  obtain⟨k,f,n,tt,ops,v,rfl,rfl,hkf,hf1,hnk,hts,HR,hrec,hbl,hsz⟩:=hrel;have hR:Hid (zIn model.data.toList f ops tt.data.toList k=z9w model.data.toList t.data.toList):=HR;clear HR;obtain⟨f,rfl⟩:∃f',f=f'+1:=⟨f-1,by omega⟩;cases hemp:tt.toList.isEmpty with
  |true=>
    have hnil:tt.data.toList=[]:=(by rw[←zYW];exact List.isEmpty_iff.1 hemp);have hX:Hid (z9w model.data.toList t.data.toList=.inl ops):=(by rw[←hR.out,zIn,if_pos hnil];exact rfl);have c1:wr.cell? ⟨w.heap.size+2,1,none⟩=some v:=(by rw[zBk hrec.blk];rfl);have hown:=hrec.own;have hfew:=hrec.few;obtain⟨va,vc,rfl⟩:=zIW hown;clear hR hnil hrec;go_wp2;go_ret3;refine⟨hbl,Or.inl ⟨ops,_,hX.out,by omega,⟨hown.1,?_⟩,rfl⟩⟩;rcases hown.2 with h|⟨g,cap,cur,h1,hbg,r⟩
    ·exact .inl h
    ·exact .inr ⟨g,cap,cur,h1,by omega,r⟩
  |false=>
    have hne:¬tt.data.toList=[]:=(by rw[←zYW];intro h;rw[h]at hemp;cases hemp);by_cases hk:k<128
    ·obtain⟨f,rfl⟩:∃f',f=f'+1:=⟨f-1,by omega⟩;have hk':(k:Int)+1≤128:=(by omega);have hS:Hid (z9w model.data.toList t.data.toList=(match addP model.data.toList ops ⟨(Lib.cut tt.data.toList [10]).1.toArray⟩ ((k:Int)+1)with
      |(r,none)=>.inr (((k:Int)+1),r)
      |(_,some ops')=>zIn model.data.toList (f+1) ops' (Lib.cut tt.data.toList [10]).2.1 (k+1))):=by
      rw[←hR.out,zIn,if_neg hne,if_neg (by omega)];exact rfl
     have hcl:=zEY tt.data.toList;have htl:tt.data.toList.length=tt.size:=(by simp);have hgr:Glob wr:=hg.below (hbl.mono (by omega));obtain⟨mx,hmx⟩:=hgr.mx;clear hR hne hmm;go_wp2_with fail;refine(Tryz.strings_Cut tt ⟨#[10]⟩ mx _ (by omega) hmx).mono ?_;rw[show((⟨#[10]⟩:ByteArray)).data.toList=[10]from rfl];rintro e w1 ⟨rfl,dn,rfl⟩;generalize Lib.cut tt.data.toList [10]=ct at*;obtain⟨l1,l2,l3⟩:=ct;simp only at hcl hS⊢;have hrec1:Rec (wr.drewN dn) (w.heap.size+2) w.heap.size (w.heap.size+1) (w.heap.size+3) n v model ops:=hrec.below (below_drewN (zD) dn);have hg1:Glob (wr.drewN dn):=hgr.below (below_drewN (zD) dn);go_wp2_with fail;refine(add_any (wr.drewN dn) (w.heap.size+2) w.heap.size (w.heap.size+1) (w.heap.size+3) n w.heap.size v model ops ⟨l1.toArray⟩ ((k:Int)+1) hrec1 hg1.ops hg1.errs hg1.utf (by omega) hng (by exact hsz) (by omega) (by omega) (by show l1.toArray.size≤_;simp;omega)).mono ?_;rintro e w2 ⟨rfl,hb2,hrec2⟩;have hbl2:Below w.heap.size w w2:=(below_drewN hbl dn).trans hb2;have hz2:=hb2.size;have hz3:w.heap.size+3≤w2.heap.size:=Nat.le_trans hsz hz2;rcases zIME model.data.toList ops ⟨l1.toArray⟩ ((k:Int)+1)with ⟨h1,h2⟩|⟨h1,h2⟩
     ·obtain⟨ops',hops⟩:=Option.isSome_iff_exists.1 h2;obtain⟨v',hr'⟩:=hrec2 ops' hops;have hS2:Hid (zIn model.data.toList (f+1) ops' l2 (k+1)=z9w model.data.toList t.data.toList):=by
       rw[hS.out];rw[show addP model.data.toList ops ⟨l1.toArray⟩ ((k:Int)+1)=(0,some ops')from Prod.ext h1 hops];exact rfl
      rw[h1];clear hS h1 h2 hops hrec2 hrec hrec1;go_wp2;go_roundw
      case rel=>exact⟨k+1,f+1,n+1,⟨l2.toArray⟩,ops',v',rfl,by go_num,by omega,by omega,by omega,by show l2.toArray.size≤_;simp;omega,hS2.out,hr',hbl2,hz3⟩
      case measure=>simp[intOf];omega
     ·have hX:Hid (z9w model.data.toList t.data.toList=.inr (((k:Int)+1),(addP model.data.toList ops ⟨l1.toArray⟩ ((k:Int)+1)).1)):=by
       rw[hS.out];rw[show addP model.data.toList ops ⟨l1.toArray⟩ ((k:Int)+1)=((addP model.data.toList ops ⟨l1.toArray⟩ ((k:Int)+1)).1,none)from Prod.ext rfl h2];exact rfl
      clear hS h2 hrec2 hrec hrec1;generalize (addP model.data.toList ops ⟨l1.toArray⟩ ((k:Int)+1)).1=rr at*;have hrr:(rr != 0)=true:=(by simpa using h1);go_wp2;go_ret3;exact⟨hbl2,Or.inr ⟨_,_,hX.out,rfl⟩⟩
    ·have hk8:k=128:=(by omega);have hf0:f=0:=(by omega);have hX:Hid (z9w model.data.toList t.data.toList=.inr (((k:Int)+1),1)):=(by rw[←hR.out,zIn,if_neg hne,if_pos hf0];exact rfl);have hk':(128:Int)<(k:Int)+1:=(by omega);clear hR hk8 hf0 hne hrec;go_wp2;go_ret3;exact⟨hbl,Or.inr ⟨_,_,hX.out,rfl⟩⟩
def zHM (model t:List UInt8)(w:World)(e:Ending)(w':World):Prop:=
 Below w.heap.size w w'∧((zOI model opTab=false∧e=.returned (.tuple #[.slice none 0 0,.int .i64 0,.int .i64 0,.int .i64 1]))∨
  (zOI model opTab=true∧((∃ops v,z9w model t=.inl ops∧ops.length≤128∧w'.ownsRow w.heap.size 74 10 v ops.length (opsRow ops)∧e=.returned (.tuple #[v,.int .i64 0,.int .i64 0,.int .i64 0]))∨
   (∃l r,z9w model t=.inr (l,r)∧e=.returned (.tuple #[.slice none 0 0,.int .i64 l,.int .i64 r,.int .i64 0])))))
theorem zjT (t model:ByteArray)(w:World)(hg:Glob w)(ht:t.size≤2000000):
 Calls prog 7 #[.string t,.string model] w fun e w'=>zHM model.data.toList t.data.toList w e w':=by
 have hng:=hg.errs.lt;go_enter func7,ntmps7;go_wp2_with fail;refine(zZL model _ hg.ops hng).mono ?_;rintro e w1 ⟨rfl,hb1⟩;have z1:=hb1.size;cases hkn:zOI model.data.toList opTab with
 |false=>
   have HK:Hid (zOI model.data.toList opTab=false):=hkn;clear hkn;go_wp2;refine bodyPost_ret (v:=.tuple #[.slice none 0 0,.int .i64 0,.int .i64 0,.int .i64 1]) (by simp[results,results7,go_sem]) rfl ⟨hb1,Or.inl ⟨HK.out,rfl⟩⟩
 |true=>
   have HK:Hid (zOI model.data.toList opTab=true):=hkn;clear hkn;go_wp2_with fail;refine(zyp t model _ (hg.below (hb1.mono hng)) ht).mono ?_;rintro e w2 ⟨hb2,⟨ops,v,hr,hl,hown,rfl⟩|⟨l,r,hr,rfl⟩⟩
   ·have HR:Hid (z9w model.data.toList t.data.toList=.inl ops):=hr;clear hr;go_wp2;refine bodyPost_ret (v:=.tuple #[v,.int .i64 0,.int .i64 0,.int .i64 0]) (by simp[results,results7,go_sem]) rfl ⟨hb1.trans (hb2.mono z1),Or.inr ⟨HK.out,Or.inl ⟨ops,v,HR.out,hl,⟨hown.1,?_⟩,rfl⟩⟩⟩;rcases hown.2 with h|⟨g,cap,cur,h1,hbg,r⟩
    ·exact .inl h
    ·exact .inr ⟨g,cap,cur,h1,by omega,r⟩
   ·have HR:Hid (z9w model.data.toList t.data.toList=.inr (l,r)):=hr;clear hr;go_wp2;exact bodyPost_ret (v:=.tuple #[.slice none 0 0,.int .i64 l,.int .i64 r,.int .i64 0]) (by simp[results,results7,go_sem]) rfl ⟨hb1.trans (hb2.mono z1),Or.inr ⟨HK.out,Or.inr ⟨l,r,HR.out,rfl⟩⟩⟩
end Go.Proofs.YtbbkihekjdffpaaGreatDoor
