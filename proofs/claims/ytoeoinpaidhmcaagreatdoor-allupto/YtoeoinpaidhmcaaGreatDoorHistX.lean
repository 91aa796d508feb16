/- Several texts in one. -/
import Derived.Test.YtoeoinpaidhmcaaGreatDoorHistY
set_option maxHeartbeats 8000000
set_option maxRecDepth 100000
namespace Go.Proofs.YtoeoinpaidhmcaaGreatDoor
open Go.RowKit Go.Maps
def sRet:List UInt8:=[114,101,116]
def sVal:List UInt8:=[118,97,108]
def zoz (ms:List Mem)(nm:List UInt8):Int:=((z8R ms nm).map (fun m=>m.2.1)).getD 0
def setRet (o:OpV)(line k n:Int):OpV:={ o with ret:=line,vk:=k,vn:=n }
def retP (model:List UInt8)(ops:List OpV)(ms:List Mem)(line:Int):Int×Option (List OpV):=
 match z09 ops (zqd ms sRet)with
 |none=>(7,none)
 |some i=>match ops[i]? with
   |none=>(7,none)
   |some o=>if o.ret≠0 then(7,none)else
     if zIyy (((zco model o.name opTab).map (fun r=>r.2.2.2)).getD 0) (zoz ms sVal)then(0,some (ops.set i (setRet o line (zoz ms sVal) (zqd ms sVal))))else(8,none)
theorem zXV (a:List Mem)(b:List UInt8):(z0Q a (.string b)).getD (.agg #[.int .i64 0,.int .i64 0,.string ⟨#[]⟩])=.agg #[.int .i64 (zoz a b),.int .i64 (zqd a b),.string ⟨(zch a b).toArray⟩]:=by
 cases h:z8R a b with
 |none=>simp[z0Q,zqd,zch,zoz,h]
 |some m=>simp[z0Q,zqd,zch,zoz,h,aggV]
theorem zvc (a:List OpV)(i:Nat)(h:i<a.length):∀c,c<10→(opsRow a)[i*10+c]?=(opvCells a[i])[c]?:=by
 induction a generalizing i with
 |nil=>simp at h
 |cons o r ih=>
   intro c d;have e:opsRow (o::r)=opvCells o++opsRow r:=(by simp[opsRow]);have b:(opvCells o).length=10:=rfl;rw[e];cases i with
   |zero=>simp only [Nat.zero_mul,Nat.zero_add,List.getElem_cons_zero];rw[List.getElem?_append_left (by omega)]
   |succ i=>
     rw[List.getElem?_append_right (by omega),b,show(i+1)*10+c-10=i*10+c by omega,ih i (by simpa using h) c d];rfl
theorem zDA {w:World}{a g d n:Nat}{b:List Value}(h:w.ownsRow a 27 10 (.slice (some ⟨g,0,none⟩) n d) n b):
 ∀j u,b[j]?=some u→w.cell? ⟨g,j,none⟩=some u:=by
 intro j u e;have:=h.cells (g:=g) rfl j u e;by_cases h0:j=0
 ·subst h0;simpa [Addr.add]using this
 ·simpa [Addr.add,h0]using this
theorem zUj {w:World}{a g d n:Nat}{e:TypeId}{b:Nat}{k:List Value}(h:w.ownsRow a e b (.slice (some ⟨g,0,none⟩) n d) n k)(j:Nat)(v:Value)(_hj:j<k.length):
 (w.setCell ⟨g,j,none⟩ v).ownsRow a e b (.slice (some ⟨g,0,none⟩) n d) n (k.set j v):=by
 refine⟨by simpa using h.1,?_⟩;rcases h.2 with ⟨l,_⟩|⟨u,t,p,l,r,s,q,o,m,i⟩
 ·cases l
 ·injection l with ha _ hcap;injection ha with ha;injection ha with hgg _ _;subst hgg;subst hcap;refine .inr ⟨g,d,p.setIfInBounds j v,rfl,r,by rw[zFg s],q,o,by simpa using m,?_⟩;rw[Array.toList_setIfInBounds,List.take_set,i]
theorem set_app {a b:List Value}{n j:Nat}{v:Value}(h:n=a.length+j):(a++b).set n v=a++b.set j v:=by
 subst h;rw[List.set_append,if_neg (by omega)];simp
theorem zb0 (b:List OpV)(i:Nat)(h:i<b.length)(d k n:Int):
 opsRow (b.set i (setRet b[i] d k n))=(((opsRow b).set (i*10+7) (.int .i64 d)).set (i*10+8) (.int .i64 k)).set (i*10+9) (.int .i64 n):=by
 induction b generalizing i with
 |nil=>simp at h
 |cons o r ih=>
   have e:∀(a:OpV) (l:List OpV),opsRow (a::l)=opvCells a++opsRow l:=fun a l=>(by simp[opsRow]);cases i with
   |zero=>
     simp only [List.getElem_cons_zero,List.set_cons_zero,e];rfl
   |succ i=>
     simp only [List.getElem_cons_succ,List.set_cons_succ,e];rw[ih i (by simpa using h)];have g:(opvCells o).length=10:=rfl;rw[set_app (j:=i*10+7) (by rw[g];omega),set_app (j:=i*10+8) (by rw[g];omega),set_app (j:=i*10+9) (by rw[g];omega)]
theorem zLW (a:List OpV)(i:Nat)(h:i<a.length)(b k n x:Int):z09 (a.set i (setRet a[i] b k n)) x=z09 a x:=by
 unfold z09
 induction a generalizing i with
 |nil=>simp at h
 |cons o r ih=>
   cases i with
   |zero=>simp[List.findIdx?_cons,setRet]
   |succ i=>
     simp only [List.getElem_cons_succ,List.set_cons_succ,List.findIdx?_cons];rw[ih i (by simpa using h)]
theorem z9I (a:List OpV)(i:Nat)(h:i<a.length)(b k n:Int):∀l,idFn a l=idFn (a.set i (setRet a[i] b k n)) l:=by
 intro l;unfold idFn;split
 ·rw[zLW a i h]
 ·rfl
theorem zZ7E (a:List OpV)(i:Nat)(h:i<a.length)(b k n c:Int)(d:a[i].ret=0)(e:b≠0):
 openOf (a.set i (setRet a[i] b k n)) c+(if a[i].cl=c then 1 else 0)=openOf a c:=by
 unfold openOf
 induction a generalizing i with
 |nil=>simp at h
 |cons o r ih=>
   cases i with
   |zero=>
     simp only [List.getElem_cons_zero]at d;simp only [List.getElem_cons_zero,List.set_cons_zero];have g:((setRet o b k n).cl==c&&(setRet o b k n).ret==0)=false:=(by simp[setRet,e]);rw[List.filter_cons,List.filter_cons,g];by_cases hc:o.cl=c
     ·simp[hc,d]
     ·simp[hc]
   |succ i=>
     simp only [List.getElem_cons_succ]at d;simp only [List.getElem_cons_succ,List.set_cons_succ];have:=ih i (by simpa using h) d;rw[List.filter_cons,List.filter_cons];split
     ·simp only [List.length_cons];omega
     ·exact this
open Tryz
theorem zje {m n b on:List UInt8}{d a:Int}(h:zco m n opTab=some (b,on,d,a)):a=0∨a=1∨a=2∨a=3∨a=4:=by
 have e:(b,on,d,a)∈opTab:=List.mem_of_find?_eq_some h;simp[opTab]at e;omega
theorem MapFn.mono {w:World}{k:TypeId}{b n a sz:Nat}{f:Lit→Option Value}(h:MapFn w k b n sz f)(e:n≤a):MapFn w k b a sz f:=by
 obtain⟨D,d,r⟩:=h;exact⟨D,d.mono e,r⟩
theorem zFo (a:List OpV)(c:Int):openOf a c≤a.length:=List.length_filter_le _ _
theorem zrV {a:List OpV}{f:Lit→Option Value}(h:∀c,(f (.int .i64 c)).getD (.int .i64 0)=.int .i64 (openOf a c))(i:Nat)(g:i<a.length)(b k n:Int)(j:a[i].ret=0)(d:b≠0):
 ∀c,(zp1 f a[i].cl ((openOf a a[i].cl:Int)-1) (.int .i64 c)).getD (.int .i64 0)=.int .i64 (openOf (a.set i (setRet a[i] b k n)) c):=by
 intro c;have:=zZ7E a i g b k n c j d;by_cases e:c=a[i].cl
 ·subst e;rw[zSg];rw[if_pos rfl]at this;simp only [Option.getD_some];congr 1;omega
 ·rw[zPm _ _ _ _ (by intro l;apply e;injection l),h c];rw[if_neg (fun h=>e h.symm)]at this;congr 1;omega
theorem zGh (m n:List UInt8):((zco m n opTab).map (fun r=>r.2.2.2)).getD 0=0∨((zco m n opTab).map (fun r=>r.2.2.2)).getD 0=1∨((zco m n opTab).map (fun r=>r.2.2.2)).getD 0=2∨((zco m n opTab).map (fun r=>r.2.2.2)).getD 0=3∨((zco m n opTab).map (fun r=>r.2.2.2)).getD 0=4:=by
 cases h:zco m n opTab with
 |none=>simp
 |some r=>obtain⟨a,b,c,d⟩:=r;exact zje h
theorem zCJ (s:ByteArray)(d:List UInt8)(b W:World)(g:Below b.heap.size b W)(k:Ops b)(i:10≤b.heap.size):
 Calls prog 28 #[.string s,.string ⟨d.toArray⟩] W fun e w'=>∃(om on:List UInt8) (nd gv:Int) (ok:Bool),e=.returned (.tuple #[.agg #[.string ⟨om.toArray⟩,.string ⟨on.toArray⟩,.int .u8 nd,.int .u8 gv],.bool ok])∧Below b.heap.size b w'∧
  Hid (gv=((zco s.data.toList d opTab).map (fun r=>r.2.2.2)).getD 0)∧
  (W.heap[b.heap.size]?=some (.cells #[.string ⟨#[]⟩,.string ⟨#[]⟩,.int .u8 0,.int .u8 0] 60 (0,0))→ZeroOp w' b.heap.size):=by
 refine(zoY s ⟨d.toArray⟩ W (k.below (g.mono i)) (Nat.le_trans i g.size)).mono ?_;rintro e w' ⟨h,⟨o,j,rfl⟩|⟨j,rfl⟩⟩
 ·refine⟨o.1,o.2.1,o.2.2.1,o.2.2.2,true,rfl,g.trans (h.mono g.size),by show _=_;rw[show d=((⟨d.toArray⟩:ByteArray)).data.toList from rfl,j];rfl,fun hz=>?_⟩;have a:=(h.block b.heap.size (zBq hz)).trans hz;exact⟨by rw[zBk a];rfl,by rw[zBk a];rfl,by rw[zBk a];rfl,by rw[zBk a];rfl,zBn a _,zBn a _,zBn a _,zBn a _,a⟩
 ·refine⟨[],[],0,0,false,rfl,g.trans (h.mono g.size),by show _=_;rw[show d=((⟨d.toArray⟩:ByteArray)).data.toList from rfl,j];rfl,fun hz=>?_⟩;have a:=(h.block b.heap.size (zBq hz)).trans hz;exact⟨by rw[zBk a];rfl,by rw[zBk a];rfl,by rw[zBk a];rfl,by rw[zBk a];rfl,zBn a _,zBn a _,zBn a _,zBn a _,a⟩
theorem zpC (w:World) (z U H A n bm nm sz L:Nat) (v:Value) (k:ByteArray) (d:List OpV) (t:List Mem) (l:Int)
 (y:Rec w z U H A n v k d) (hm:MapFn w 9 bm nm sz (z0Q t)) (V:Ops w) (aZ:10≤w.heap.size) (hL:L≤z∧L≤U∧L≤H) (af:∀nm,(Lit.int .i64 (zqd t nm)).wf=true) (_hbs:A≤w.heap.size) (aY:n≤900)
 (ab:l≠0) (hk:zoz t sVal=0∨zoz t sVal=1∨zoz t sVal=2) (_hbmB:bm≠U∧bm≠H):
 Calls prog 50 #[.pointer (some ⟨z,0,none⟩),.map (some bm),.int .i64 l] w fun e w'=>
  e=.returned (.int .i64 (retP k.data.toList d t l).1)∧Below L w w'∧(∀o,(retP k.data.toList d t l).2=some o→Rec w' z U H A (n+1) v k o):=by
 have l1:=zXV t sRet;have l2:=zXV t sVal;have r1:=(hm.below ((Below.refl w.heap.size w).drew)).run1 lawS underlying111 (z7H _) (zjt (s:=⟨#[114,101,116]⟩) (by decide));rw[show((⟨#[114,101,116]⟩:ByteArray)).data.toList=sRet from rfl,l1]at r1;have aA:=af sRet;have aW:=zLY;have a2:=zwU;obtain⟨aV,D⟩:=y.ids;have aJ:=zBq y.blk;have aQ:=D.lt;have aL:H<w.heap.size:=by obtain⟨_,_,h,_⟩:=y.opn;exact h.lt
 have ah:L≤w.heap.size:=by omega
 have an:=(D.below ((Below.refl w.heap.size w).drew)).runOk lawI underlying62 (zG7 _) (zxZ aA);have e1:w.cell? ⟨z,1,none⟩=some v:=by rw[zBk y.blk];rfl
 have e2:w.cell? ⟨z,2,none⟩=some (.map (some U)):=by rw[zBk y.blk];rfl
 have HP:Hid (retP k.data.toList d t l=(match z09 d (zqd t sRet)with
  |none=>(7,none)
  |some i=>match d[i]? with
    |none=>(7,none)
    |some o=>if o.ret≠0 then(7,none)else
      if zIyy (((zco k.data.toList o.name opTab).map (fun r=>r.2.2.2)).getD 0) (zoz t sVal)then(0,some (d.set i (setRet o l (zoz t sVal) (zqd t sVal))))else(8,none))):=rfl
 have a1:=af sVal;clear af l1;generalize zqd t sRet=o1 at*;cases hid:z09 d o1 with
 |none=>
   have E:Hid (retP k.data.toList d t l=(7,none)):=(by rw[HP.out,hid];exact rfl);have ei:idFn d (.int .i64 o1)=none:=(by simp[idFn,hid]);simp only [ei,Option.getD_none,Option.isSome_none]at an;clear ei HP hid D l2 hm y V;go_enter func50,ntmps50;go_wp2;go_region
   all_goals
    go_wp2;go_ret;exact⟨by rw[E.out];rfl,(zD).drew,by rw[E.out];intro o h;cases h⟩
 |some i=>
   have F:i<d.length:=by
    unfold z09 at hid;have:=List.findIdx?_eq_some_iff_findIdx_eq.1 hid;exact this.1
   have ei:idFn d (.int .i64 o1)=some (.int .i64 (i:Int)):=(by simp[idFn,hid]);simp only [ei,Option.getD_some,Option.isSome_some]at an;have ad:Hid (retP k.data.toList d t l=(if d[i].ret≠0 then(7,none)else
    if zIyy (((zco k.data.toList d[i].name opTab).map (fun r=>r.2.2.2)).getD 0) (zoz t sVal)then(0,some (d.set i (setRet d[i] l (zoz t sVal) (zqd t sVal))))else(8,none))):=by
    have h:=HP.out;rw[hid]at h;simp only [zC F]at h;exact h
   -- the row of operations
   obtain⟨g,J,rfl⟩:∃g J,v=.slice (some ⟨g,0,none⟩) d.length J:=by
    rcases y.own.2 with ⟨_,h0⟩|⟨g,J,P,h1,_⟩
    ·omega
    ·exact⟨g,J,h1⟩
   have aT:=zYv y.own g rfl;have a3:g<w.heap.size:=(y.own.lt g rfl).2;have m:∀c u,c<10→(opvCells d[i])[c]?=some u→w.cell? ⟨g,i*10+c,none⟩=some u:=fun c u hc hu=>zDA y.own _ _ ((zvc d i F c hc).trans hu);have q0:=m 0 _ (by omega) rfl;have q1:=m 1 _ (by omega) rfl;have q2:=m 2 _ (by omega) rfl;have q3:=m 3 _ (by omega) rfl;have q4:=m 4 _ (by omega) rfl;have q5:=m 5 _ (by omega) rfl;have q6:=m 6 _ (by omega) rfl;have q7:=m 7 _ (by omega) rfl;have q8:=m 8 _ (by omega) rfl;have q9:=m 9 _ (by omega) rfl;rw[Nat.add_zero]at q0;have aM:=y.few;have au:(i:Int)<(d.length:Int):=(by omega);have N:=y.wfs d[i] (List.getElem_mem F);clear m ei hid HP;go_enter func50,ntmps50;go_wp2;go_cut [7,8] (fun a b wx=>a=.int .i64 (i:Int)∧b=.bool true∧wx=w.drew)
   case first=>
    go_region
    all_goals
     go_wp2_with fail;go_meet;exact⟨rfl,rfl,rfl⟩
   case rest=>
    obtain⟨rfl,rfl,rfl⟩:=hcut;clear an r1;by_cases hret:d[i].ret=0
    ·have aB:(d[i].ret != 0)=false:=(by simp[hret]);have S:Hid (retP k.data.toList d t l=(if zIyy (((zco k.data.toList d[i].name opTab).map (fun r=>r.2.2.2)).getD 0) (zoz t sVal)then(0,some (d.set i (setRet d[i] l (zoz t sVal) (zqd t sVal))))else(8,none))):=by
      rw[ad.out,if_neg (by simp[hret])];exact rfl
     have al:Hid (d[i].ret=0):=hret;clear ad hret;go_wp2;clear e1 e2 a2 q0 q1 q2 q3 q4 q5 q6 q7 q8 q9 au aB;generalize d[i].id=oid at*;generalize d[i].name=onm at*;generalize d[i].key=oky at*;generalize d[i].arg=oag at*;generalize d[i].exp=oex at*;generalize d[i].call=ocl at*;generalize d[i].vk=ovk at*;generalize d[i].vn=ovn at*;have O:((w.alloc (.cells #[.int .i64 oid,.int .i64 d[i].cl,.string ⟨onm.toArray⟩,.string ⟨oky.toArray⟩,.int .i64 oag,.int .i64 oex,.int .i64 ocl,.int .i64 d[i].ret,.int .i64 ovk,.int .i64 ovn] 27)).drew).heap[w.heap.size]?=some (.cells #[.int .i64 oid,.int .i64 d[i].cl,.string ⟨onm.toArray⟩,.string ⟨oky.toArray⟩,.int .i64 oag,.int .i64 oex,.int .i64 ocl,.int .i64 d[i].ret,.int .i64 ovk,.int .i64 ovn] 27):=ziF w _ w.heap.size rfl;have C:Below w.heap.size w ((w.alloc (.cells #[.int .i64 oid,.int .i64 d[i].cl,.string ⟨onm.toArray⟩,.string ⟨oky.toArray⟩,.int .i64 oag,.int .i64 oex,.int .i64 ocl,.int .i64 d[i].ret,.int .i64 ovk,.int .i64 ovn] 27)).drew):=(zA _ _).drew;generalize (w.alloc (.cells #[.int .i64 oid,.int .i64 d[i].cl,.string ⟨onm.toArray⟩,.string ⟨oky.toArray⟩,.int .i64 oag,.int .i64 oex,.int .i64 ocl,.int .i64 d[i].ret,.int .i64 ovk,.int .i64 ovn] 27)).drew=W1 at*;have Q:=y.below C;have ae:=hm.below C;have a0:Ops W1:=V.below (C.mono aZ);have a5:=C.size;have c0:W1.cell? ⟨z,0,none⟩=some (.string k):=(by rw[zBk Q.blk];rfl);have d2:W1.cell? ⟨w.heap.size,2,none⟩=some (.string ⟨onm.toArray⟩):=(by rw[zBk O];rfl);have aN:=zBq O;have a6:=zBq Q.blk;have aP:w.heap.size≠W1.heap.size:=(by omega);have aO:z≠W1.heap.size:=(by omega);have aw:Below W1.heap.size W1 W1.drew:=(zD).drew;have az:∀o,Below W1.heap.size W1 (W1.alloc o).drew:=fun o=>((zD).alloc zH o).drew;go_cut [10,11] (fun p8 ok wx=>∃(R:Nat) (W on:List UInt8) (Y I:Int) (aE:Bool),p8=.pointer (some ⟨R,0,none⟩)∧ok=.bool aE∧Below W1.heap.size W1 wx∧W1.heap.size≤R∧
      wx.heap[R]?=some (.cells #[.string ⟨W.toArray⟩,.string ⟨on.toArray⟩,.int .u8 Y,.int .u8 I] 60 (0,0))∧I=((zco k.data.toList onm opTab).map (fun r=>r.2.2.2)).getD 0)
     case first=>
      clear y hm D Q ae O C S al aT a3 aM N aW l2 a1 hk ab _hbmB hL _hbs aY ah aQ aL aJ aA V;go_region_with (go_at_call 28;refine(zCJ k onm W1 _ (by first|exact aw|exact az _) a0 (by omega)).mono ?_;rintro e w2 ⟨W,on,Y,I,ok,rfl,x,aC,hz⟩;try (have a4:=hz (ziF W1 _ _ rfl);obtain⟨z0,z1,z2,z3,y0,y1,y2,y3,yb⟩:=a4);clear hz)
      all_goals
       go_wp2_with fail;go_meet
       first
        | exact⟨w2.heap.size,W,on,Y,I,ok,rfl,rfl,x.alloc x.size _,x.size,ziF _ _ _ rfl,aC.out⟩
        | exact⟨W1.heap.size,W,on,Y,I,ok,rfl,rfl,zmi x zH _ _ _ _,Nat.le_refl _,blk4 yb _ _ _ _,aC.out⟩
     case rest=>
      obtain⟨R,W,on,Y,I,aE,rfl,rfl,x,bc,M,aq⟩:=hcut;have am:Hid (I=((zco k.data.toList onm opTab).map (fun r=>r.2.2.2)).getD 0):=aq;have ax:=zGh k.data.toList onm;rw[←aq]at ax;have aD:=ae.below x;have ay:=Q.below x;have bd:=x.size;have aF:=(x.block w.heap.size aN).trans O;have a7:=zBq M;have av:Below w.heap.size w wc:=C.trans (x.mono (by omega));have m0:wc.cell? ⟨R,0,none⟩=some (.string ⟨W.toArray⟩):=(by rw[zBk M];rfl);have m1:wc.cell? ⟨R,1,none⟩=some (.string ⟨on.toArray⟩):=(by rw[zBk M];rfl);have m2:wc.cell? ⟨R,2,none⟩=some (.int .u8 Y):=(by rw[zBk M];rfl);have m3:wc.cell? ⟨R,3,none⟩=some (.int .u8 I):=(by rw[zBk M];rfl);have rv:=aD.run1 lawS underlying111 (z7H _) (zjt (s:=⟨#[118,97,108]⟩) (by decide));rw[show((⟨#[118,97,108]⟩:ByteArray)).data.toList=sVal from rfl,l2]at rv;clear M aw az d2 c0 aP aO O aq ae Q hm y C x l2 aD D;generalize zoz t sVal=kd at*;generalize zqd t sVal=vn at*;go_wp2_with fail;refine(zAh ⟨W.toArray⟩ ⟨on.toArray⟩ Y I kd _ ax hk).mono ?_;rintro e B ⟨rfl,ar⟩;have G:Below wc.heap.size wc B:=(zA _ _).trans (ar.mono (by simp));have V4:B.heap[wc.heap.size]?=some (.cells #[.int .i64 kd,.int .i64 vn] 25):=(ar.block wc.heap.size (by simp)).trans (ziF _ _ _ rfl);have q:=ay.below G;have O4:=(G.block w.heap.size (by omega)).trans aF;have X:Below w.heap.size w B:=av.trans (G.mono (by omega));have z4:=G.size;clear ar G ay aF av m0 m1 m2 m3 rv;cases hmg:zIyy I kd with
      |false=>
        have E:Hid (retP k.data.toList d t l=(8,none)):=(by rw[S.out,←am.out,hmg];exact rfl);clear hmg S q;go_wp2;go_ret;exact⟨by rw[E.out];rfl,X.mono ah,by rw[E.out];intro o h;cases h⟩
      |true=>
        have E:Hid (retP k.data.toList d t l=(0,some (d.set i (setRet d[i] l kd vn)))):=(by rw[S.out,←am.out,hmg];exact rfl);clear hmg S am;have m:∀c u,c<10→(opvCells d[i])[c]?=some u→B.cell? ⟨g,i*10+c,none⟩=some u:=fun c u hc hu=>zDA q.own _ _ ((zvc d i F c hc).trans hu);have q7:=m 7 _ (by omega) rfl;have q8:=m 8 _ (by omega) rfl;have q9:=m 9 _ (by omega) rfl;have aa:∃P,B.heap[g]?=some (.cells P 27 (0,0)):=by
         rcases q.own.2 with ⟨h1,_⟩|⟨g',a9,P,h1,_,hg,_⟩
         ·cases h1
         ·simp at h1;rw[h1.1];exact⟨P,hg⟩
        obtain⟨P,aa⟩:=aa;have fz:∀j,B.frozen? ⟨g,j,none⟩=false:=fun j=>zBn aa j;have f7:=fz (i*10+7);have f8:=fz (i*10+8);have f9:=fz (i*10+9);have x1:B.cell? ⟨z,1,none⟩=some (.slice (some ⟨g,0,none⟩) d.length J):=(by rw[zBk q.blk];rfl);have v0:B.cell? ⟨wc.heap.size,0,none⟩=some (.int .i64 kd):=(by rw[zBk V4];rfl);have v1:B.cell? ⟨wc.heap.size,1,none⟩=some (.int .i64 vn):=(by rw[zBk V4];rfl);have n1:z≠g:=(by have:=q.lt1;omega);have n2:wc.heap.size≠g:=(by omega);have au:(i:Int)<(d.length:Int):=(by omega);clear m fz;go_wp2;go_cut [6] (fun a wx=>a=.int .i64 0∧wx=((((B.setCell ⟨g,i*10+7,none⟩ (.int .i64 l)).setCell ⟨g,i*10+8,none⟩ (.int .i64 kd)).setCell ⟨g,i*10+9,none⟩ (.int .i64 vn)).drew))
        case first=>
         go_region
         all_goals
          go_wp2_with fail;go_meet;exact⟨rfl,rfl⟩
        case rest=>
         obtain⟨rfl,rfl⟩:=hcut;have ba:(opsRow d).length=d.length*10:=q.own.1;have aH:(((((B.setCell ⟨g,i*10+7,none⟩ (.int .i64 l)).setCell ⟨g,i*10+8,none⟩ (.int .i64 kd)).setCell ⟨g,i*10+9,none⟩ (.int .i64 vn)).drew)).ownsRow A 27 10 (.slice (some ⟨g,0,none⟩) d.length J) d.length (opsRow (d.set i (setRet d[i] l kd vn))):=by
          rw[zb0 d i F];exact zUj (zUj (zUj q.own (i*10+7) _ (by omega)) (i*10+8) _ (by simp;omega)) (i*10+9) _ (by simp;omega)
         have Z:Kept [g] B ((((B.setCell ⟨g,i*10+7,none⟩ (.int .i64 l)).setCell ⟨g,i*10+8,none⟩ (.int .i64 kd)).setCell ⟨g,i*10+9,none⟩ (.int .i64 vn)).drew):=((((Kept.refl _ _).setCell (p:=⟨g,i*10+7,none⟩) (Or.inl (by simp)) _).setCell (p:=⟨g,i*10+8,none⟩) (Or.inl (by simp)) _).setCell (p:=⟨g,i*10+9,none⟩) (Or.inl (by simp)) _).drew;have bb:z≠U∧z≠H∧U≠H∧z<A∧U<A∧H<A:=⟨q.ne1,q.ne2,q.ne3,q.lt1,q.lt2,q.lt3⟩;have aI:Below L w ((((B.setCell ⟨g,i*10+7,none⟩ (.int .i64 l)).setCell ⟨g,i*10+8,none⟩ (.int .i64 kd)).setCell ⟨g,i*10+9,none⟩ (.int .i64 vn)).drew):=(X.mono ah).trans (Z.below (by omega) (by simp;omega));have R6:=(Z.block z (zBq q.blk) (by simp;omega)).trans q.blk;have O6:=(Z.block w.heap.size (zBq O4) (by simp;omega)).trans O4;obtain⟨aV,aj⟩:=q.ids;obtain⟨be,f2,ak,ao⟩:=q.opn;have aS:=aj.kept Z (by simp;omega);have ag:=ak.kept Z (by simp;omega);have aK:=q.wfs;have z6:=Z.size;clear Z q7 q8 q9 f7 f8 f9 x1 v0 v1 aa V4 O4 q aj ak X;generalize ((((B.setCell ⟨g,i*10+7,none⟩ (.int .i64 l)).setCell ⟨g,i*10+8,none⟩ (.int .i64 kd)).setCell ⟨g,i*10+9,none⟩ (.int .i64 vn)).drew)=W6 at*;have y3:W6.cell? ⟨z,3,none⟩=some (.map (some H)):=(by rw[zBk R6];rfl);have y1:W6.cell? ⟨w.heap.size,1,none⟩=some (.int .i64 d[i].cl):=(by rw[zBk O6];rfl);have ai:=(ag.below ((Below.refl W6.heap.size W6).drew)).run1 lawI underlying62 (zG7 _) (zxZ N);rw[ao d[i].cl]at ai;have a8:=zFo d d[i].cl;obtain⟨w7,aR,aU,K⟩:=(ag.below ((Below.refl W6.heap.size W6).drew)).runPut lawI underlying62 (by unfold maxLen;omega) (.int .i64 ((openOf d d[i].cl:Int)-1)) (zxZ N) trivial (zp1 f2 d[i].cl ((openOf d d[i].cl:Int)-1)) (zSg _ _ _) (zPm _ _ _);go_wp2;go_cut [6] (fun a wx=>a=.int .i64 0∧w7=wx)
         case first=>
          go_region
          all_goals
           go_wp2_with fail;go_meet;exact⟨rfl,rfl⟩
         case rest=>
          obtain⟨rfl,rfl⟩:=hcut;have k7:Kept [H] W6 w7:=⟨K.os,K.tape,K.output,K.size,K.block⟩;clear aR ai K;go_wp2;go_ret;refine⟨by rw[E.out];rfl,aI.trans (k7.below (by omega) (by simp;omega)),?_⟩;intro o V;rw[E.out]at V;obtain rfl:d.set i (setRet d[i] l kd vn)=o:=Option.some.inj V;refine⟨(k7.block z (zBq R6) (by simp;omega)).trans R6,?_,⟨_,((aS.kept k7 (by simp;omega)).mono (by omega)).congr (z9I d i F l kd vn)⟩,⟨_,_,aU,zrV ao i F l kd vn al.out ab⟩,by omega,by omega,by omega,by omega,by omega,by omega,by simp;omega,?_⟩
          ·have:=zzF aH k7 (by simp;omega);simpa using this
          ·intro o' aX;rcases List.mem_or_eq_of_mem_set aX with h|h
           ·exact aK o' h
           ·rw[h];exact N
    ·have aB:(d[i].ret != 0)=true:=(by simp[hret]);have E:Hid (retP k.data.toList d t l=(7,none)):=(by rw[ad.out,if_pos hret];exact rfl);clear ad hret D y hm V;go_wp2;go_ret;exact⟨by rw[E.out];rfl,(zD).drew,by rw[E.out];intro o h;cases h⟩
def addP (model:List UInt8)(ops:List OpV)(s:ByteArray)(line:Int):Int×Option (List OpV):=
 match zIo s with
 |none=>(2,none)
 |some ms=>if za6 ms then(if z5q ms callSlots then((zRl model ops ms line).1,(zRl model ops ms line).2.map (fun o=>ops++[o]))else if z5q ms retSlots then retP model ops ms line else(3,none))else(3,none)
theorem z1e4 {a:List Mem}{b:List UInt8}{m:Mem}(h:z8R a b=some m):m∈a:=List.mem_of_find?_eq_some h
theorem zGW {a:List Mem}{N:Nat}(h:∀m∈a,zhZ N m)(b:List UInt8):(Lit.int .i64 (zqd a b)).wf=true:=by
 have: -9223372036854775808≤zqd a b∧zqd a b≤9223372036854775807:=by
  unfold zqd;cases hf:z8R a b with
  |none=>exact⟨by decide,by decide⟩
  |some m=>exact(h m (z1e4 hf)).2
 exact WalkArith.wf_i64 (by omega)
theorem zzW {a:List Mem}(h:z5q a retSlots=true):zoz a sVal=0∨zoz a sVal=1∨zoz a sVal=2:=by
 unfold z5q at h;unfold retSlots at h;rw[zmy]at h;cases h1:z8R a [114,101,116]with
 |none=>simp[h1]at h
 |some m1=>
   simp only [h1]at h;by_cases hk:([1]:List Int).contains m1.2.1=true
   ·rw[if_pos hk,zmy]at h;cases h2:z8R a [118,97,108]with
    |none=>simp[h2]at h
    |some m2=>
      simp only [h2]at h;by_cases hk2:([0,1,2]:List Int).contains m2.2.1=true
      ·have e:zoz a sVal=m2.2.1:=(by unfold zoz sVal;rw[h2];rfl);rw[e];simpa using hk2
      ·rw[if_neg hk2]at h;cases h
   ·rw[if_neg hk]at h;cases h
theorem add_any (w:World) (Q R N i n L:Nat) (v:Value) (a:ByteArray) (d:List OpV) (s:ByteArray) (b:Int)
 (M:Rec w Q R N i n v a d) (ho:Ops w) (he:Errs w) (hu:Utf w) (hL:L≤Q∧L≤R∧L≤N) (hN:10≤L) (ar:i≤w.heap.size) (aa:n≤900) (X:b≠0) (hs:s.size≤2000000):
 Calls Tryz.prog 22 #[.pointer (some ⟨Q,0,none⟩),.string s,.int .i64 b] w fun e w'=>
  e=.returned (.int .i64 (addP a.data.toList d s b).1)∧Below L w w'∧(∀o,(addP a.data.toList d s b).2=some o→∃v',Rec w' Q R N i (n+1) v' a o):=by
 have ak:=zBq M.blk;have am:R<w.heap.size:=by obtain⟨_,h⟩:=M.ids;exact h.lt
 have al:N<w.heap.size:=by obtain⟨_,_,h,_⟩:=M.opn;exact h.lt
 have aq:=he.lt;have B:L≤w.heap.size:=by omega
 go_enter Tryz.func22,Tryz.ntmps22;go_wp2_with fail;refine(zVM s _ hs he hu).mono ?_;rintro e O ⟨p,⟨g,v1,P,av,J,rfl⟩|⟨P,rfl⟩⟩
 ·have t:=zau P;have HL:Hid (addP a.data.toList d s b=if za6 g then(if z5q g callSlots then((zRl a.data.toList d g b).1,(zRl a.data.toList d g b).2.map (fun o=>d++[o]))else if z5q g retSlots then retP a.data.toList d g b else(3,none))else(3,none)):=by
   unfold addP;rw[P];exact rfl
  have U:=M.below p;clear P M;go_wp2_with fail;refine(zfv O _ v1 g J (by omega) (fun m hm=>by have:=(t m hm).1;omega)).mono ?_;rintro e w2 ⟨K,⟨D,G,rfl⟩|⟨D,rfl⟩⟩
  ·have ab:=U.below K;have l:Hid (addP a.data.toList d s b=if z5q g callSlots then((zRl a.data.toList d g b).1,(zRl a.data.toList d g b).2.map (fun o=>d++[o]))else if z5q g retSlots then retP a.data.toList d g b else(3,none)):=by
    rw[HL.out,if_pos D];exact rfl
   have z1:=p.size;have z2:=K.size;have an:O.heap.size<w2.heap.size:=G.lt;have ag:Below w.heap.size w w2:=p.trans (K.mono z1);clear HL D J U;go_wp2_with fail;refine(zcO w2).mono ?_;rintro e w3 ⟨g3,rfl,au,ae,A,S⟩;have q:=G.below A;have Z:=ab.below A;have z3:=A.size;go_wp2_with fail;refine(zBH w3 O.heap.size g.length g3 6 g callSlots q ae S (by decide) (by omega) (by decide)).mono ?_;rintro e w4 ⟨rfl,F⟩;have r:=q.below F;have V:=Z.below F;have z4:=F.size;have u:Below w.heap.size w w4:=(ag.trans (A.mono (by omega))).trans (F.mono (by omega));clear G ab q Z S A F;cases hf:z5q g callSlots with
   |true=>
     have k:Hid (addP a.data.toList d s b=((zRl a.data.toList d g b).1,(zRl a.data.toList d g b).2.map (fun o=>d++[o]))):=(by rw[l.out,if_pos hf];exact rfl);clear hf l;go_wp2_with fail;refine(zEg w4 Q R N i n O.heap.size g.length g.length L v a d g b V r (ho.below (u.mono (by omega))) (by omega) hL (zGW t) (by omega) aa).mono ?_;rintro e w5 ⟨rfl,j,I⟩;go_wp2;go_ret;refine⟨by rw[k.out];rfl,(u.mono B).trans j,?_⟩;intro o z;rw[k.out]at z;obtain⟨x,hx,rfl⟩:=Option.map_eq_some_iff.1 z;exact I x hx
   |false=>
     have k:Hid (addP a.data.toList d s b=if z5q g retSlots then retP a.data.toList d g b else(3,none)):=(by rw[l.out,hf];exact rfl);clear hf l;go_wp2_with fail;refine(zRx w4).mono ?_;rintro e w5 ⟨g5,rfl,ao,af,j,W⟩;have y:=r.below j;have ad:=V.below j;have z5:=j.size;go_wp2_with fail;refine(zBH w5 O.heap.size g.length g5 2 g retSlots y af W (by decide) (by omega) (by decide)).mono ?_;rintro e w6 ⟨rfl,E⟩;have Y:=y.below E;have ah:=ad.below E;have z6:=E.size;have H:Below w.heap.size w w6:=(u.trans (j.mono (by omega))).trans (E.mono (by omega));clear r V y ad W j E u;cases hf:z5q g retSlots with
     |true=>
       have C:Hid (addP a.data.toList d s b=retP a.data.toList d g b):=(by rw[k.out,if_pos hf];exact rfl);have ai:=zzW hf;clear hf k;go_wp2_with fail;refine(zpC w6 Q R N i n O.heap.size g.length g.length L v a d g b ah Y (ho.below (H.mono (by omega))) (by omega) hL (zGW t) (by omega) aa X ai (by omega)).mono ?_;rintro e w7 ⟨rfl,aj,I⟩;go_wp2;go_ret;refine⟨by rw[C.out];rfl,(H.mono B).trans aj,?_⟩;intro o z;rw[C.out]at z;exact⟨_,I o z⟩
     |false=>
       have C:Hid (addP a.data.toList d s b=(3,none)):=(by rw[k.out,hf];exact rfl);clear hf k;go_wp2;go_ret;exact⟨by rw[C.out];rfl,H.mono B,by rw[C.out];intro o h;cases h⟩
  ·have l:Hid (addP a.data.toList d s b=(3,none)):=(by rw[HL.out,D];exact rfl);clear HL D J U;have z1:=p.size;go_wp2;go_ret;exact⟨by rw[l.out];rfl,(p.mono B).trans (K.mono (by omega)),by rw[l.out];intro o h;cases h⟩
 ·have HL:Hid (addP a.data.toList d s b=(2,none)):=by unfold addP;rw[P];exact rfl
  clear P M;go_wp2;go_ret;exact⟨by rw[HL.out];rfl,p.mono B,by rw[HL.out];intro o h;cases h⟩
theorem z7C (a:List UInt8)(d:List OpV)(e:List Mem)(b:Int):((zRl a d e b).1=0∧(zRl a d e b).2.isSome)∨((zRl a d e b).1≠0∧(zRl a d e b).2=none):=by
 unfold zRl;simp only;split
 ·right;exact⟨by decide,rfl⟩
 ·split
  ·split
   ·right;exact⟨by decide,rfl⟩
   ·split
    ·right;exact⟨by decide,rfl⟩
    ·left;exact⟨rfl,rfl⟩
  ·right;exact⟨by decide,rfl⟩
theorem zHh (a:List UInt8)(d:List OpV)(e:List Mem)(b:Int):((retP a d e b).1=0∧(retP a d e b).2.isSome)∨((retP a d e b).1≠0∧(retP a d e b).2=none):=by
 unfold retP;split
 ·right;exact⟨by decide,rfl⟩
 ·split
  ·right;exact⟨by decide,rfl⟩
  ·split
   ·right;exact⟨by decide,rfl⟩
   ·split
    ·left;exact⟨rfl,rfl⟩
    ·right;exact⟨by decide,rfl⟩
theorem zIME (a:List UInt8)(d:List OpV)(s:ByteArray)(b:Int):((addP a d s b).1=0∧(addP a d s b).2.isSome)∨((addP a d s b).1≠0∧(addP a d s b).2=none):=by
 unfold addP;split
 ·right;exact⟨by decide,rfl⟩
 ·rename_i ms _;split
  ·split
   ·rcases z7C a d ms b with ⟨e,g⟩|⟨e,g⟩
    ·left;exact⟨e,by simpa using g⟩
    ·right;exact⟨e,by simp[g]⟩
   ·split
    ·exact zHh a d ms b
    ·right;exact⟨by decide,rfl⟩
  ·right;exact⟨by decide,rfl⟩
def zIn (model:List UInt8):Nat→List OpV→List UInt8→Nat→List OpV ⊕ (Int×Int)
 |0,_,_,k=>.inr ((k:Int),1)
 |f+1,ops,t,k=>if t=[]then .inl ops else if f=0 then .inr (((k:Int)+1),1)else
   match addP model ops ⟨(Lib.cut t [10]).1.toArray⟩ ((k:Int)+1)with
   |(r,none)=>.inr (((k:Int)+1),r)
   |(_,some ops')=>zIn model f ops' (Lib.cut t [10]).2.1 (k+1)
def z9w (model t:List UInt8):List OpV ⊕ (Int×Int):=zIn model 129 [] t 0
def zys (model t:List UInt8)(w:World)(e:Ending)(w':World):Prop:=
 Below w.heap.size w w'∧((∃ops v,z9w model t=.inl ops∧ops.length≤128∧w'.ownsRow w.heap.size 27 10 v ops.length (opsRow ops)∧e=.returned (.tuple #[v,.int .i64 0,.int .i64 0]))∨
  (∃l r,z9w model t=.inr (l,r)∧e=.returned (.tuple #[.slice none 0 0,.int .i64 l,.int .i64 r])))
structure Glob (w:World):Prop where
 ops:Ops w
 errs:Errs w
 utf:Utf w
 mx:∃m,w.cell? ⟨2,0,none⟩=some (.int .i64 m)
theorem Glob.below {w w':World}(h:Glob w)(k:Below 10 w w'):Glob w':=by
 obtain⟨m,a⟩:=h.mx;exact⟨h.ops.below k,h.errs.below k,h.utf.below k,m,(k.cell (p:=⟨2,0,none⟩) (by show 2<10;omega)).trans a⟩
theorem zug:∀x,(none:Option Value)=idFn [] x:=by
 intro x;unfold idFn;split<;>rfl
theorem zEY (t:List UInt8):(Lib.cut t [10]).1.length≤t.length∧(Lib.cut t [10]).2.1.length≤t.length:=by
 unfold Lib.cut;split
 ·constructor
  ·simp;omega
  ·simp
 ·exact⟨Nat.le_refl _,by simp⟩
theorem zyp (t a:ByteArray)(w:World)(L:Glob w)(ht:t.size≤2000000):
 Calls prog 12 #[.string t,.string a] w fun e w'=>zys a.data.toList t.data.toList w e w':=by
 have N:=@run_makeMap prog;have S:=L.errs.lt;go_enter func12,ntmps12;go_wp2;go_loopw [0,8] (fun tx nu wr=>∃(k f n:Nat) (i:ByteArray) (b:List OpV) (v:Value),tx=.string i∧nu=.int .i64 ((k:Int)+1)∧k+f=129∧1≤f∧n≤k∧i.size≤2000000∧zIn a.data.toList f b i.data.toList k=z9w a.data.toList t.data.toList∧
  Rec wr (w.heap.size+2) w.heap.size (w.heap.size+1) (w.heap.size+3) n v a b∧Below w.heap.size w wr∧w.heap.size+3≤wr.heap.size) (fun _ nu _=>130-(intOf nu).toNat)
 case atStart=>
  refine⟨0,129,0,t,[],.slice none 0 0,rfl,by go_num,by omega,by omega,by omega,ht,rfl,?_,(((zA _ _).alloc (by simp) _).alloc (by simp;omega) _),by simp⟩;have m1:MapFn (((w.alloc (.map #[] 0)).alloc (.map #[] 0)).alloc (.cells #[.string a,.slice none 0 0,.map (some w.heap.size),.map (some (w.heap.size+1))] 64)) 2 w.heap.size 0 0 (fun _=>none):=((MapFn.made w _).alloc _).alloc _;have Z:MapFn (((w.alloc (.map #[] 0)).alloc (.map #[] 0)).alloc (.cells #[.string a,.slice none 0 0,.map (some w.heap.size),.map (some (w.heap.size+1))] 64)) 2 (w.heap.size+1) 0 0 (fun _=>none):=by
   have:=(MapFn.made (w.alloc (.map #[] 0)) 2).alloc (.cells #[.string a,.slice none 0 0,.map (some w.heap.size),.map (some (w.heap.size+1))] 64);simpa using this
  exact⟨ziF _ _ _ (by simp),World.ownsRow_nil _ _ _ _,⟨0,m1.congr zug⟩,⟨0,_,Z,fun c=>rfl⟩,by omega,by omega,by omega,by omega,by omega,by omega,by simp,by simp⟩
 case round=>
  obtain⟨k,f,n,i,b,v,rfl,rfl,ab,af,ad,ae,R,d,u,G⟩:=hrel;have hR:Hid (zIn a.data.toList f b i.data.toList k=z9w a.data.toList t.data.toList):=R;clear R;obtain⟨f,rfl⟩:∃f',f=f'+1:=⟨f-1,by omega⟩;cases hemp:i.toList.isEmpty with
  |true=>
    have E:i.data.toList=[]:=(by rw[←zYW];exact List.isEmpty_iff.1 hemp);have z:Hid (z9w a.data.toList t.data.toList=.inl b):=(by rw[←hR.out,zIn,if_pos E];exact rfl);have c1:wr.cell? ⟨w.heap.size+2,1,none⟩=some v:=(by rw[zBk d.blk];rfl);have s:=d.own;have aa:=d.few;obtain⟨va,vc,rfl⟩:=zIW s;clear hR E d;go_wp2;go_ret3;refine⟨u,Or.inl ⟨b,_,z.out,by omega,⟨s.1,?_⟩,rfl⟩⟩;rcases s.2 with h|⟨g,cap,cur,p,hbg,r⟩
    ·exact .inl h
    ·exact .inr ⟨g,cap,cur,p,by omega,r⟩
  |false=>
    have x:¬i.data.toList=[]:=(by rw[←zYW];intro h;rw[h]at hemp;cases hemp);by_cases hk:k<128
    ·obtain⟨f,rfl⟩:∃f',f=f'+1:=⟨f-1,by omega⟩;have U:(k:Int)+1≤128:=(by omega);have C:Hid (z9w a.data.toList t.data.toList=(match addP a.data.toList b ⟨(Lib.cut i.data.toList [10]).1.toArray⟩ ((k:Int)+1)with
      |(r,none)=>.inr (((k:Int)+1),r)
      |(_,some j)=>zIn a.data.toList (f+1) j (Lib.cut i.data.toList [10]).2.1 (k+1))):=by
      rw[←hR.out,zIn,if_neg x,if_neg (by omega)];exact rfl
     have O:=zEY i.data.toList;have ag:i.data.toList.length=i.size:=(by simp);have I:Glob wr:=L.below (u.mono (by omega));obtain⟨Y,P⟩:=I.mx;clear hR x N;go_wp2_with fail;refine(Tryz.strings_Cut i ⟨#[10]⟩ Y _ (by omega) P).mono ?_;rw[show((⟨#[10]⟩:ByteArray)).data.toList=[10]from rfl];rintro e w1 ⟨rfl,y,rfl⟩;generalize Lib.cut i.data.toList [10]=ct at*;obtain⟨o,J,l3⟩:=ct;simp only at O C⊢;have m:Rec (wr.drewN y) (w.heap.size+2) w.heap.size (w.heap.size+1) (w.heap.size+3) n v a b:=d.below (below_drewN (zD) y);have D:Glob (wr.drewN y):=I.below (below_drewN (zD) y);go_wp2_with fail;refine(add_any (wr.drewN y) (w.heap.size+2) w.heap.size (w.heap.size+1) (w.heap.size+3) n w.heap.size v a b ⟨o.toArray⟩ ((k:Int)+1) m D.ops D.errs D.utf (by omega) S (by exact G) (by omega) (by omega) (by show o.toArray.size≤_;simp;omega)).mono ?_;rintro e M ⟨rfl,F,l⟩;have B:Below w.heap.size w M:=(below_drewN u y).trans F;have Q:=F.size;have X:w.heap.size+3≤M.heap.size:=Nat.le_trans G Q;rcases zIME a.data.toList b ⟨o.toArray⟩ ((k:Int)+1)with ⟨p,A⟩|⟨p,A⟩
     ·obtain⟨j,q⟩:=Option.isSome_iff_exists.1 A;obtain⟨v',W⟩:=l j q;have V:Hid (zIn a.data.toList (f+1) j J (k+1)=z9w a.data.toList t.data.toList):=by
       rw[C.out];rw[show addP a.data.toList b ⟨o.toArray⟩ ((k:Int)+1)=(0,some j)from Prod.ext p q];exact rfl
      rw[p];clear C p A q l d m;go_wp2;go_roundw
      case rel=>exact⟨k+1,f+1,n+1,⟨J.toArray⟩,j,v',rfl,by go_num,by omega,by omega,by omega,by show J.toArray.size≤_;simp;omega,V.out,W,B,X⟩
      case measure=>simp[intOf];omega
     ·have z:Hid (z9w a.data.toList t.data.toList=.inr (((k:Int)+1),(addP a.data.toList b ⟨o.toArray⟩ ((k:Int)+1)).1)):=by
       rw[C.out];rw[show addP a.data.toList b ⟨o.toArray⟩ ((k:Int)+1)=((addP a.data.toList b ⟨o.toArray⟩ ((k:Int)+1)).1,none)from Prod.ext rfl A];exact rfl
      clear C A l d m;generalize (addP a.data.toList b ⟨o.toArray⟩ ((k:Int)+1)).1=rr at*;have ah:(rr != 0)=true:=(by simpa using p);go_wp2;go_ret3;exact⟨B,Or.inr ⟨_,_,z.out,rfl⟩⟩
    ·have K:k=128:=(by omega);have H:f=0:=(by omega);have z:Hid (z9w a.data.toList t.data.toList=.inr (((k:Int)+1),1)):=(by rw[←hR.out,zIn,if_neg x,if_pos H];exact rfl);have U:(128:Int)<(k:Int)+1:=(by omega);clear hR K H x d;go_wp2;go_ret3;exact⟨u,Or.inr ⟨_,_,z.out,rfl⟩⟩
def zHM (model t:List UInt8)(w:World)(e:Ending)(w':World):Prop:=
 Below w.heap.size w w'∧((zOI model opTab=false∧e=.returned (.tuple #[.slice none 0 0,.int .i64 0,.int .i64 0,.int .i64 1]))∨
  (zOI model opTab=true∧((∃ops v,z9w model t=.inl ops∧ops.length≤128∧w'.ownsRow w.heap.size 27 10 v ops.length (opsRow ops)∧e=.returned (.tuple #[v,.int .i64 0,.int .i64 0,.int .i64 0]))∨
   (∃l r,z9w model t=.inr (l,r)∧e=.returned (.tuple #[.slice none 0 0,.int .i64 l,.int .i64 r,.int .i64 0])))))
theorem zjT (t a:ByteArray)(w:World)(o:Glob w)(u:t.size≤2000000):
 Calls prog 4 #[.string t,.string a] w fun e w'=>zHM a.data.toList t.data.toList w e w':=by
 have n:=o.errs.lt;go_enter func4,ntmps4;go_wp2_with fail;refine(zZL a _ o.ops n).mono ?_;rintro e y ⟨rfl,b⟩;have q:=b.size;cases hkn:zOI a.data.toList opTab with
 |false=>
   have j:Hid (zOI a.data.toList opTab=false):=hkn;clear hkn;go_wp2;refine bodyPost_ret (v:=.tuple #[.slice none 0 0,.int .i64 0,.int .i64 0,.int .i64 1]) (by simp[results,results4,go_sem]) rfl ⟨b,Or.inl ⟨j.out,rfl⟩⟩
 |true=>
   have j:Hid (zOI a.data.toList opTab=true):=hkn;clear hkn;go_wp2_with fail;refine(zyp t a _ (o.below (b.mono n)) u).mono ?_;rintro e x ⟨k,⟨m,v,d,s,i,rfl⟩|⟨l,r,d,rfl⟩⟩
   ·have p:Hid (z9w a.data.toList t.data.toList=.inl m):=d;clear d;go_wp2;refine bodyPost_ret (v:=.tuple #[v,.int .i64 0,.int .i64 0,.int .i64 0]) (by simp[results,results4,go_sem]) rfl ⟨b.trans (k.mono q),Or.inr ⟨j.out,Or.inl ⟨m,v,p.out,s,⟨i.1,?_⟩,rfl⟩⟩⟩;rcases i.2 with h|⟨g,cap,cur,h1,hbg,r⟩
    ·exact .inl h
    ·exact .inr ⟨g,cap,cur,h1,by omega,r⟩
   ·have p:Hid (z9w a.data.toList t.data.toList=.inr (l,r)):=d;clear d;go_wp2;exact bodyPost_ret (v:=.tuple #[.slice none 0 0,.int .i64 l,.int .i64 r,.int .i64 0]) (by simp[results,results4,go_sem]) rfl ⟨b.trans (k.mono q),Or.inr ⟨j.out,Or.inr ⟨l,r,p.out,rfl⟩⟩⟩
end Go.Proofs.YtoeoinpaidhmcaaGreatDoor
