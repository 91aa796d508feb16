/- Several texts in one. -/
import Derived.Test.YtlkidmafomjhgaaGreatDoorKeepL
import Derived.Test.YtlkidmafomjhgaaGreatDoorKeepXG
namespace Go.Proofs.YtlkidmafomjhgaaGreatDoor.keep
open Go.RowKit

inductive Tells (i:Nat):List OpV→List (List UInt8)→Prop
 | nil:Tells i [] []
 | call {ops:List OpV} {lines:List (List UInt8)} (h:Tells i ops lines) (cl:Int) (d:List Int) (hc: -1≤cl∧cl≤1) (hf:∀ o∈ops,o.cl=cl→o.ret≠0):Tells i (ops++[(zqT i cl ops.length lines.length d).1]) (lines++[(zqT i cl ops.length lines.length d).2.1])
 | ret {ops:List OpV} {lines:List (List UInt8)} (h:Tells i ops lines) (j k:Nat) (o:OpV) (vk vn:Int) (d:List Int) (hj:ops[j]?=some o) (hr:o.ret=0) (hk:k < opN i) (hn:o.name=opS i k) (hv:zxk i k vk vn):Tells i (ops.set j { o with vk:=vk,vn:=vn,ret:=(lines.length:Int)+1 }) (lines++[(zZ7 o.id vk vn d).1])
theorem Tells.len {i:Nat} {ops:List OpV} {lines:List (List UInt8)} (h:Tells i ops lines):ops.length≤lines.length:=by
 induction h with
 | nil=>simp
 | call h cl d hc hf ih=>simp;omega
 | ret h j k o vk vn d hj hr hk hn hv ih=>simp;omega
def zuE (name:List UInt8):Bool:=name == [119,114,105,116,101]||name == [112,117,116]||name == [101,110,113]||name == [99,97,115]
theorem zTV (i:Nat) (cl:Int) (n m:Nat) (d:List Int):∃ (k kk:Nat) (arg exp:Int) (d':List Int),k < opN i∧kk < 3∧small arg∧small exp∧(zuE (opS i k)=false→arg=0)∧(opS i k≠[99,97,115]→exp=0)∧
 (zqT i cl n m d).1=⟨7*(n:Int) - 20,cl,opS i k,if zSt i=true then keyS kk else [],arg,exp,(m:Int)+1,0,0,0⟩∧(zqT i cl n m d).2.1=(zdF (zSt i) (7*(n:Int) - 20) cl (opS i k) arg exp kk d').1∧(zqT i cl n m d).2.2.1=kk∧(zSt i=false→kk=0):=by
 have ho:0 < opN i:=by unfold opN;split <;> omega
 unfold zqT
 dsimp only
 refine ⟨pickP ((z1S 6 d).1:Int) (opN i),(keyP i (z1S 6 d).2).1,_,_,_,zdA _ ho,zO1 _ _,?_,?_,?_,?_,?_,rfl,rfl,?_⟩
 · have:=zvm (opS i (pickP ((z1S 6 d).1:Int) (opN i))) (keyP i (z1S 6 d).2).2.1
   exact ⟨by omega,by omega⟩
 · have:=zWH (opS i (pickP ((z1S 6 d).1:Int) (opN i))) (argP (opS i (pickP ((z1S 6 d).1:Int) (opN i))) (keyP i (z1S 6 d).2).2.1).2
   exact ⟨by omega,by omega⟩
 · intro h
   unfold argP
   rw [if_neg (by rintro (h' | h' | h' | h') <;> (rw [h'] at h;revert h;decide))]
 · intro h
   unfold expP
   rw [if_neg h]
 · congr 1
   unfold keyP
   split <;> rfl
 · intro h
   unfold keyP
   rw [if_neg (by rw [h];simp)]

theorem Tells.ids {i:Nat} {ops:List OpV} {lines:List (List UInt8)} (h:Tells i ops lines):∀ (j:Nat) (o:OpV),ops[j]?=some o→o.id=7*(j:Int) - 20:=by
 induction h with
 | nil=>intro j o hj;simp at hj
 | @call ops lines h cl d hc hf ih=>
   intro j o hj
   by_cases hl:j < ops.length
   · rw [List.getElem?_append_left hl] at hj;exact ih j o hj
   · rw [List.getElem?_append_right (by omega)] at hj
     have h0:j - ops.length=0:=by have:=(List.getElem?_eq_some_iff.1 hj).1;simp at this;omega
     rw [h0] at hj
     simp at hj
     rw [←hj]
     show 7*(ops.length:Int) - 20=_
     omega
 | @ret ops lines h j k o vk vn d hj hr hk hn hv ih=>
   intro a p hp
   have hjl:=(List.getElem?_eq_some_iff.1 hj).1
   by_cases e:j=a
   · subst e
     rw [List.getElem?_set_self hjl] at hp
     injection hp with hp
     rw [←hp]
     exact ih j o hj
   · rw [List.getElem?_set_ne e] at hp;exact ih a p hp
theorem zy9 {i k:Nat} {vk vn:Int} (h:zxk i k vk vn):zWP vk vn:=by
 have hI:zio vk vn→zWP vk vn:=by rintro ⟨rfl,s1,s2⟩;exact Or.inr (Or.inl ⟨rfl,by omega,by omega⟩)
 have hN:zf6 vk vn→zWP vk vn:=by rintro ⟨rfl,rfl⟩;exact Or.inl ⟨rfl,rfl⟩
 have hB:zKe vk vn→zWP vk vn:=by rintro ⟨rfl,hh⟩;exact Or.inr (Or.inr ⟨rfl,hh⟩)
 unfold zxk at h
 split at h
 all_goals first | exact hI h | exact hN h | exact hB h | exact h.elim hI hN
inductive Seat (i:Nat) (ops:List OpV) (gv:Nat→Int×Int) (who:Int):Int→Int→Int→Prop
 | idle (op key:Int) (h:∀ o∈ops,o.cl=who→o.ret≠0):Seat i ops gv who 0 op key
 | opened (j kk k:Nat) (o:OpV) (st:Int) (hj:ops[j]?=some o) (hc:o.cl=who) (hr:o.ret=0) (hk:k < opN i) (hn:o.name=opS i k) (ha:small o.arg) (hkk:kk < 3) (hz:i=0→kk=0)
  (hu:∀ j' o',ops[j']?=some o'→o'.cl=who→o'.ret=0→j'=j) (hs:st=1∨(st=2∧zxk i k (gv j).1 (gv j).2)):Seat i ops gv who st (j:Int) (kk:Int)
theorem Seat.snoc {i:Nat} {ops:List OpV} {gv:Nat→Int×Int} {who st op key:Int} (h:Seat i ops gv who st op key) (o:OpV) (hne:o.cl≠who):Seat i (ops++[o]) gv who st op key:=by
 cases h with
 | idle _ _ h=>
   refine .idle _ _ fun p hp=>?_
   rcases List.mem_append.1 hp with hp | hp
   · exact h p hp
   · simp at hp;subst hp;exact fun e=>absurd e hne
 | opened j kk k p _ hj hc hr hk hn ha hkk hz hu hs=>
   have hjl:=(List.getElem?_eq_some_iff.1 hj).1
   refine .opened j kk k p _ (by rw [List.getElem?_append_left hjl];exact hj) hc hr hk hn ha hkk hz (fun j' o' hj' hc' hr'=>?_) hs
   by_cases hl:j' < ops.length
   · rw [List.getElem?_append_left hl] at hj';exact hu j' o' hj' hc' hr'
   · rw [List.getElem?_append_right (by omega)] at hj'
     have h0:j' - ops.length=0:=by have:=(List.getElem?_eq_some_iff.1 hj').1;simp at this;omega
     rw [h0] at hj'
     simp at hj'
     subst hj'
     exact absurd hc' hne
theorem Seat.set {i:Nat} {ops:List OpV} {gv:Nat→Int×Int} {who st op key:Int} (h:Seat i ops gv who st op key) (j:Nat) (o o':OpV) (hj:ops[j]?=some o) (hne:o.cl≠who) (hne':o'.cl≠who):Seat i (ops.set j o') gv who st op key:=by
 have hjl:=(List.getElem?_eq_some_iff.1 hj).1
 cases h with
 | idle _ _ h=>
   refine .idle _ _ fun p hp=>?_
   rcases List.mem_or_eq_of_mem_set hp with hp | hp
   · exact h p hp
   · subst hp;exact fun e=>absurd e hne'
 | opened j2 kk k p _ hj2 hc hr hk hn ha hkk hz hu hs=>
   have hjj:j≠j2:=by intro e;subst e;rw [hj] at hj2;injection hj2 with e;subst e;exact hne hc
   refine .opened j2 kk k p _ (by rw [List.getElem?_set_ne hjj];exact hj2) hc hr hk hn ha hkk hz (fun j' p' hj' hc' hr'=>?_) hs
   by_cases hl:j=j'
   · subst hl
     rw [List.getElem?_set_self hjl] at hj'
     injection hj' with e
     subst e
     exact absurd hc' hne'
   · rw [List.getElem?_set_ne hl] at hj';exact hu j' p' hj' hc' hr'
theorem Seat.gv {i:Nat} {ops:List OpV} {gv gv':Nat→Int×Int} {who st op key:Int} (h:Seat i ops gv who st op key) (he:∀ j o,ops[j]?=some o→o.cl=who→gv' j=gv j):Seat i ops gv' who st op key:=by
 cases h with
 | idle _ _ h=>exact .idle _ _ h
 | opened j kk k p _ hj hc hr hk hn ha hkk hz hu hs=>exact .opened j kk k p _ hj hc hr hk hn ha hkk hz hu (by rw [he j p hj hc];exact hs)

theorem Seat.three {i:Nat} {ops:List OpV} {gv:Nat→Int×Int} {who st op key:Int} (h:Seat i ops gv who st op key):st=0∨∃ (j kk k:Nat) (o:OpV),op=(j:Int)∧key=(kk:Int)∧ops[j]?=some o∧o.cl=who∧o.ret=0∧k < opN i∧o.name=opS i k∧small o.arg∧kk < 3∧(i=0→kk=0)∧
 (∀ j' o',ops[j']?=some o'→o'.cl=who→o'.ret=0→j'=j)∧(st=1∨(st=2∧zxk i k (gv j).1 (gv j).2)):=by
 cases h with
 | idle _ _ h=>exact Or.inl rfl
 | opened j kk k p _ hj hc hr hk hn ha hkk hz hu hs=>exact Or.inr ⟨j,kk,k,p,rfl,rfl,hj,hc,hr,hk,hn,ha,hkk,hz,hu,hs⟩

def upd {α:Type} (f:Nat→α) (h:Nat) (v:α):Nat→α:=fun x=>if x=h then v else f x
theorem z5w {α:Type} (f:Nat→α) (h:Nat) (v:α):upd f h v h=v:=if_pos rfl
theorem zkf {α:Type} (f:Nat→α) {h x:Nat} (v:α) (hx:x≠h):upd f h v x=f x:=if_neg hx
def stF (s:Int):Nat:=if s=1 then 2 else if s=2 then 1 else 0
def mM (most n:Nat) (st:Nat→Int):Nat:=3*(most - n)+stF (st 0)+stF (st 1)+stF (st 2)
theorem z3v (most n:Nat) (st:Nat→Int) (h:Nat) (hh:h < 3) (v:Int):mM most n (upd st h v)+stF (st h)=mM most n st+stF v:=by
 unfold mM upd
 obtain rfl | rfl | rfl:h=0∨h=1∨h=2:=by omega
 · simp;omega
 · simp;omega
 · simp;omega
theorem zeF (most n:Nat) (st:Nat→Int) (h:n < most):mM most (n+1) st+3=mM most n st:=by unfold mM;omega

def KL (i:Nat) (keys:List Nat) (ops:List OpV):Prop:=keys.length=ops.length∧∀ (j:Nat) (o:OpV),ops[j]?=some o→∃ kk,keys[j]?=some kk∧kk < 3∧(zSt i=false→kk=0)∧o.key=(if zSt i=true then keyS kk else [])
theorem KL.snoc {i:Nat} {keys:List Nat} {ops:List OpV} (h:KL i keys ops) (o:OpV) (kk:Nat) (h1:kk < 3) (h2:zSt i=false→kk=0) (h3:o.key=(if zSt i=true then keyS kk else [])):KL i (keys++[kk]) (ops++[o]):=by
 refine ⟨by simp [h.1],fun j x hx=>?_⟩
 by_cases hl:j < ops.length
 · rw [List.getElem?_append_left hl] at hx
   obtain ⟨k,hk,hr⟩:=h.2 j x hx
   exact ⟨k,by rw [List.getElem?_append_left (by rw [h.1];exact hl)];exact hk,hr⟩
 · rw [List.getElem?_append_right (by omega)] at hx
   have h0:j - ops.length=0:=by have:=(List.getElem?_eq_some_iff.1 hx).1;simp at this;omega
   rw [h0] at hx
   simp at hx
   subst hx
   exact ⟨kk,by rw [List.getElem?_append_right (by rw [h.1];omega),h.1,h0];rfl,h1,h2,h3⟩
theorem KL.set {i:Nat} {keys:List Nat} {ops:List OpV} (h:KL i keys ops) {j:Nat} {o o':OpV} (hj:ops[j]?=some o) (hk:o'.key=o.key):KL i keys (ops.set j o'):=by
 refine ⟨by simp [h.1],fun a x hx=>?_⟩
 by_cases e:j=a
 · subst e
   rw [List.getElem?_set_self (List.getElem?_eq_some_iff.1 hj).1] at hx
   injection hx with hx
   rw [←hx,hk]
   exact h.2 j o hj
 · rw [List.getElem?_set_ne e] at hx
   exact h.2 a x hx
def BO (b wb tb cb gb base:Nat):Prop:=b < wb∧wb < tb∧tb < cb∧cb < gb∧gb < base


inductive Lives (al:Bool) (i:Nat):List OpV→List (List UInt8)→List Nat→(Nat→List Int)→List (Nat×Int×Int)→Prop
 | nil:Lives al i [] [] [] (fun k=>if k=0 then zbw i else []) []
 | call {ops:List OpV} {lines:List (List UInt8)} {keys:List Nat} {ls:Nat→List Int} {dn:List (Nat×Int×Int)} (h:Lives al i ops lines keys ls dn) (cl:Int) (d:List Int) (hc: -1≤cl∧cl≤1) (hf:∀ o∈ops,o.cl=cl→o.ret≠0) (hal:al=true→∀ o∈ops,o.ret≠0):Lives al i (ops++[(zqT i cl ops.length lines.length d).1]) (lines++[(zqT i cl ops.length lines.length d).2.1]) (keys++[(zqT i cl ops.length lines.length d).2.2.1]) ls dn
 | did {ops:List OpV} {lines:List (List UInt8)} {keys:List Nat} {ls:Nat→List Int} {dn:List (Nat×Int×Int)} (h:Lives al i ops lines keys ls dn) (j k kk:Nat) (o:OpV) (hj:ops[j]?=some o) (hr:o.ret=0) (hk:k < opN i) (hn:o.name=opS i k) (hkk:keys[j]?=some kk) (hd:∀ p∈dn,p.1≠j):Lives al i ops lines keys (upd ls kk (effP i k o.cl o.arg o.exp (ls kk)).1) (dn++[(j,(effP i k o.cl o.arg o.exp (ls kk)).2)])
 | ret {ops:List OpV} {lines:List (List UInt8)} {keys:List Nat} {ls:Nat→List Int} {dn:List (Nat×Int×Int)} (h:Lives al i ops lines keys ls dn) (j k:Nat) (o:OpV) (vk vn:Int) (d:List Int) (hj:ops[j]?=some o) (hr:o.ret=0) (hk:k < opN i) (hn:o.name=opS i k) (hv:zxk i k vk vn) (hd:(j,vk,vn)∈dn):Lives al i (ops.set j { o with vk:=vk,vn:=vn,ret:=(lines.length:Int)+1 }) (lines++[(zZ7 o.id vk vn d).1]) keys ls dn
theorem Lives.tells {al:Bool} {i:Nat} {ops:List OpV} {lines:List (List UInt8)} {keys:List Nat} {ls:Nat→List Int} {dn:List (Nat×Int×Int)} (h:Lives al i ops lines keys ls dn):Tells i ops lines:=by
 induction h with
 | nil=>exact .nil
 | call h cl d hc hf hal ih=>exact .call ih cl d hc hf
 | did h j k kk o hj hr hk hn hkk hd ih=>exact ih
 | ret h j k o vk vn d hj hr hk hn hv hd ih=>exact .ret ih j k o vk vn d hj hr hk hn hv
def zBG (keys:List Nat) (dn:List (Nat×Int×Int)) (gv:Nat→Int×Int) (st op key:Int):Prop:=st≠0→∃ j kk:Nat,op=(j:Int)∧key=(kk:Int)∧keys[j]?=some kk∧(st=1→∀ p∈dn,p.1≠j)∧(st=2→(j,gv j)∈dn)
theorem Tells.cls {i:Nat} {ops:List OpV} {lines:List (List UInt8)} (h:Tells i ops lines):∀ o∈ops,-1≤o.cl∧o.cl≤1:=by
 induction h with
 | nil=>simp
 | call h cl d hc hf ih=>
   intro o ho
   rcases List.mem_append.1 ho with ho | ho
   · exact ih o ho
   · simp at ho;subst ho;exact hc
 | ret h j k o vk vn d hj hr hk hn hv ih=>
   intro p hp
   rcases List.mem_or_eq_of_mem_set hp with hp | hp
   · exact ih p hp
   · subst hp;exact ih o (List.mem_of_getElem? hj)
theorem Lives.dn_lt {al:Bool} {i:Nat} {ops:List OpV} {lines:List (List UInt8)} {keys:List Nat} {ls:Nat→List Int} {dn:List (Nat×Int×Int)} (h:Lives al i ops lines keys ls dn):∀ p∈dn,p.1 < ops.length:=by
 induction h with
 | nil=>simp
 | call h cl d hc hf hal ih=>intro p hp;have:=ih p hp;simp;omega
 | did h j k kk o hj hr hk hn hkk hd ih=>
   intro p hp
   rcases List.mem_append.1 hp with hp | hp
   · exact ih p hp
   · simp at hp;subst hp;exact (List.getElem?_eq_some_iff.1 hj).1
 | ret h j k o vk vn d hj hr hk hn hv hd ih=>intro p hp;have:=ih p hp;simpa using this
structure MIX (al:Bool) (b wb tb cb gb base i most:Nat) (sv:Value) (code:List Int) (wr:World) (d:List Int) (ops:List OpV) (lines:List (List UInt8)) (keys:List Nat) (vo vl vk:Value) (st:Nat→Int) (cc gc wc:Array Value) (gv:Nat→Int×Int) (T:Nat→List Nat) (ls:Nat→List Int) (dn:List (Nat×Int×Int)):Prop where
 dice:Dice wr b sv code d
 tale:Tale wr tb base i ops lines keys vo vl vk
 kl:KL i keys ops
 tl:Lives al i ops lines keys ls dn
 ll:lines.length≤most
 cblk:wr.heap[cb]?=some (.cells cc 56 (0,0))
 seats:∀ (h:Nat),h < 3→∃ op key,cc[3*h]?=some (.int .i64 (st h))∧cc[3*h+1]?=some (.int .i64 op)∧cc[3*h+2]?=some (.int .i64 key)∧Seat i ops gv ((h:Int) - 1) (st h) op key∧zBG keys dn gv (st h) op key
 gblk:wr.heap[gb]?=some (.cells gc 46 (0,0))
 gcell:∀ j,j≤most→gc[2*j]?=some (.int .i64 (gv j).1)∧gc[2*j+1]?=some (.int .i64 (gv j).2)
 wblk:wr.heap[wb]?=some (.cells wc 67 (0,0))
 things:∀ k,k < 3→∃ v,wc[1+k]?=some v∧ThX wr (T k) v (ls k) (ls k).length∧(i=0→k=0→1≤(ls k).length)∧(ls k).length+mM most lines.length st≤3*most+1
 ts:∀ k,k < 3→∀ x∈T k,x < wr.heap.size∧wb < x∧x≠tb∧x≠cb∧x≠gb∧vo.ownBlock≠some x∧vl.ownBlock≠some x∧vk.ownBlock≠some x∧∀ k',k' < 3→k'≠k→x∉T k'
 bs:base≤wr.heap.size

theorem MIX.next {al:Bool} {b wb tb cb gb base i most:Nat} {sv:Value} {code:List Int} {wr:World} {d:List Int} {ops:List OpV} {lines:List (List UInt8)} {keys:List Nat} {vo vl vk:Value} {st:Nat→Int} {cc gc wc:Array Value} {gv:Nat→Int×Int} {T:Nat→List Nat} {ls:Nat→List Int} {dn:List (Nat×Int×Int)}
 (m:MIX al b wb tb cb gb base i most sv code wr d ops lines keys vo vl vk st cc gc wc gv T ls dn) (hB:BO b wb tb cb gb base) {w':World} {d':List Int} (hd:Dice w' b sv code d') (k:Kept [b] wr w'):
 MIX al b wb tb cb gb base i most sv code w' d' ops lines keys vo vl vk st cc gc wc gv T ls dn:=by
 obtain ⟨h1,h2,h3,h4,h5⟩:=hB
 have hsz:=k.size
 have hbs:=m.bs
 refine ⟨hd,m.tale.kept k (by simp;omega) (by simp;omega),m.kl,m.tl,m.ll,(k.block cb (zCqB m.cblk) (by simp;omega)).trans m.cblk,m.seats,(k.block gb (zCqB m.gblk) (by simp;omega)).trans m.gblk,m.gcell,(k.block wb (zCqB m.wblk) (by simp;omega)).trans m.wblk,?_,?_,by omega⟩
 · intro q hq
   obtain ⟨v,e1,e2,e3,e4⟩:=m.things q hq
   exact ⟨v,e1,e2.keep k (fun x hx=>by have:=m.ts q hq x hx;simp;omega),e3,e4⟩
 · intro q hq x hx
   obtain ⟨a,r⟩:=m.ts q hq x hx
   exact ⟨by omega,r⟩

theorem MIX.start {al:Bool} {b wb tb cb gb base i most:Nat} {sv:Value} {code:List Int} {wr:World} {d:List Int} {ops:List OpV} {lines:List (List UInt8)} {keys:List Nat} {vo vl vk:Value} {st:Nat→Int} {cc gc wc:Array Value} {gv:Nat→Int×Int} {T:Nat→List Nat} {ls:Nat→List Int} {dn:List (Nat×Int×Int)}
 (m:MIX al b wb tb cb gb base i most sv code wr d ops lines keys vo vl vk st cc gc wc gv T ls dn) (hB:BO b wb tb cb gb base) (h:Nat) (hh:h < 3) (hst:st h=0) (hal:al=true→∀ h',h' < 3→h'≠h→st h'=0) (hlt:lines.length < most) {w':World} {d':List Int} {cc':Array Value} {vo' vl' vk':Value}
 (hd:Dice w' b sv code d') (ht:Tale w' tb base i (ops++[(zqT i ((h:Int) - 1) ops.length lines.length d).1]) (lines++[(zqT i ((h:Int) - 1) ops.length lines.length d).2.1]) (keys++[(zqT i ((h:Int) - 1) ops.length lines.length d).2.2.1]) vo' vl' vk')
 (n1:NewOr wr.heap.size vo vo') (n2:NewOr wr.heap.size vl vl') (n3:NewOr wr.heap.size vk vk') (hc:Client w' cb (3*h) cc cc' 1 (ops.length:Int) ((zqT i ((h:Int) - 1) ops.length lines.length d).2.2.1:Int))
 (hk:Kept ([b,cb,tb]++(vl.ownBlock.toList++(vo.ownBlock.toList++vk.ownBlock.toList))) wr w'):
 MIX al b wb tb cb gb base i most sv code w' d' (ops++[(zqT i ((h:Int) - 1) ops.length lines.length d).1]) (lines++[(zqT i ((h:Int) - 1) ops.length lines.length d).2.1]) (keys++[(zqT i ((h:Int) - 1) ops.length lines.length d).2.2.1]) vo' vl' vk' (upd st h 1) cc' gc wc gv T ls dn:=by
 obtain ⟨h1,h2,h3,h4,h5⟩:=hB
 have hsz:=hk.size
 have hbs:=m.bs
 obtain ⟨k,kk,arg,exp,d2,q1,q2,q3,q4,q5,q6,q7,q8,q9,q10⟩:=zTV i ((h:Int) - 1) ops.length lines.length d
 have hown:∀ x,x∈vl.ownBlock.toList++(vo.ownBlock.toList++vk.ownBlock.toList)→base≤x:=by
  intro x hx
  rcases List.mem_append.1 hx with hx | hx
  · exact (m.tale.lines.lt x (by simpa using hx)).1
  · rcases List.mem_append.1 hx with hx | hx
    · exact (m.tale.ops.lt x (by simpa using hx)).1
    · exact (m.tale.keys.lt x (by simpa using hx)).1
 have hS:∀ x,x∈[b,cb,tb]++(vl.ownBlock.toList++(vo.ownBlock.toList++vk.ownBlock.toList))→x=b∨x=cb∨x=tb∨base≤x:=by
  intro x hx
  rcases List.mem_append.1 hx with hx | hx
  · simp only [List.mem_cons,List.not_mem_nil,or_false] at hx
    rcases hx with h | h | h
    · exact Or.inl h
    · exact Or.inr (Or.inl h)
    · exact Or.inr (Or.inr (Or.inl h))
  · exact Or.inr (Or.inr (Or.inr (hown x hx)))
 have hidle:∀ o∈ops,o.cl=(h:Int) - 1→o.ret≠0:=by
  obtain ⟨op,key,_,_,_,hs,_⟩:=m.seats h hh
  rw [hst] at hs
  generalize hz:(0:Int)=z at hs
  cases hs with
  | idle _ _ hf=>exact hf
  | opened j kk k p _ hj hc hr hk hn ha hkk hz' hu hs=>rcases hs with hs | hs <;> omega
 have hall:al=true→∀ o∈ops,o.ret≠0:=by
  intro ha o ho
  obtain ⟨h',hh',e⟩:∃ h':Nat,h' < 3∧o.cl=(h':Int) - 1:=by
   have:=m.tl.tells.cls o ho
   exact ⟨(o.cl+1).toNat,by omega,by omega⟩
  obtain ⟨op,key,_,_,_,hs,_⟩:=m.seats h' hh'
  have h0:st h'=0:=by
   by_cases e:h'=h
   · rw [e];exact hst
   · exact hal ha h' hh' e
  rw [h0] at hs
  generalize hz:(0:Int)=z at hs
  cases hs with
  | idle _ _ hf=>exact hf o ho e
  | opened j kk k p _ hj hc hr hk hn ha hkk hz' hu hs=>rcases hs with hs | hs <;> omega
 have hTS:∀ q,q < 3→∀ x∈T q,x∉[b,cb,tb]++(vl.ownBlock.toList++(vo.ownBlock.toList++vk.ownBlock.toList)):=by
  intro q hq x hx hm
  obtain ⟨a1,a2,a3,a4,a5,a6,a7,a8,_⟩:=m.ts q hq x hx
  rcases List.mem_append.1 hm with hm | hm
  · simp only [List.mem_cons,List.not_mem_nil,or_false] at hm
    omega
  · rcases List.mem_append.1 hm with hm | hm
    · exact a7 (by simpa using hm)
    · rcases List.mem_append.1 hm with hm | hm
      · exact a6 (by simpa using hm)
      · exact a8 (by simpa using hm)
 refine ⟨hd,ht,by rw [q9];exact m.kl.snoc _ kk q2 q10 (by rw [q7]),.call m.tl _ d ⟨by omega,by omega⟩ hidle hall,by simp;omega,hc.blk,?_,?_,m.gcell,?_,?_,?_,by omega⟩
 · intro h' hh'
   by_cases e:h'=h
   · subst e
     refine ⟨_,_,by rw [z5w];exact hc.c0,hc.c1,hc.c2,?_,?_⟩
     rotate_left
     · rw [z5w]
       exact fun _=>⟨ops.length,_,rfl,rfl,by rw [List.getElem?_append_right (by rw [m.kl.1];exact Nat.le_refl _),m.kl.1,Nat.sub_self];rfl,fun _ p hp=>by have:=m.tl.dn_lt p hp;omega,fun e=>absurd e (by decide)⟩
     rw [z5w,q9,q7]
     refine .opened ops.length kk k _ 1 (by rw [List.getElem?_append_right (Nat.le_refl _),Nat.sub_self];rfl) rfl rfl q1 rfl q3 q2 (fun e=>q10 (by rw [e];rfl)) (fun j' o' hj' hc' hr'=>?_) (Or.inl rfl)
     by_cases hl:j' < ops.length
     · rw [List.getElem?_append_left hl] at hj'
       exact absurd hr' (hidle o' (List.mem_of_getElem? hj') hc')
     · have:=(List.getElem?_eq_some_iff.1 hj').1
       simp at this;omega
   · obtain ⟨op,key,e1,e2,e3,hs,hx⟩:=m.seats h' hh'
     have ap:∀ r,r < 3→cc'[3*h'+r]?=cc[3*h'+r]?:=fun r hr=>hc.ap.2 _ (by omega) (by omega) (by omega)
     refine ⟨op,key,?_,?_,?_,?_,?_⟩
     · rw [zkf _ _ e];exact (ap 0 (by omega)).trans e1
     · exact (ap 1 (by omega)).trans e2
     · exact (ap 2 (by omega)).trans e3
     · rw [zkf _ _ e]
       refine hs.snoc _ ?_
       rw [q7]
       show (h:Int) - 1≠(h':Int) - 1
       omega
     · rw [zkf _ _ e]
       intro hne
       obtain ⟨j,kk,a1,a2,a3,a4,a5⟩:=hx hne
       exact ⟨j,kk,a1,a2,by rw [List.getElem?_append_left (List.getElem?_eq_some_iff.1 a3).1];exact a3,a4,a5⟩
 · exact (hk.block gb (zCqB m.gblk) (fun hm=>by have:=hS _ hm;omega)).trans m.gblk
 · exact (hk.block wb (zCqB m.wblk) (fun hm=>by have:=hS _ hm;omega)).trans m.wblk
 · intro q hq
   obtain ⟨v,e1,e2,e3,e4⟩:=m.things q hq
   refine ⟨v,e1,e2.keep hk (hTS q hq),e3,?_⟩
   have hm1:=z3v most (lines.length+1) st h hh 1
   have hm2:=zeF most lines.length st hlt
   rw [hst] at hm1
   have s0:stF 0=0:=rfl
   have s1:stF 1=2:=rfl
   rw [List.length_append,List.length_cons,List.length_nil,Nat.zero_add]
   omega
 · intro q hq x hx
   obtain ⟨a1,a2,a3,a4,a5,a6,a7,a8,a9⟩:=m.ts q hq x hx
   refine ⟨by omega,a2,a3,a4,a5,fun e=>?_,fun e=>?_,fun e=>?_,a9⟩
   · rcases n1 x e with e | e
     · exact a6 e
     · omega
   · rcases n2 x e with e | e
     · exact a7 e
     · omega
   · rcases n3 x e with e | e
     · exact a8 e
     · omega

theorem MIX.did {al:Bool} {b wb tb cb gb base i most:Nat} {sv:Value} {code:List Int} {wr:World} {d:List Int} {ops:List OpV} {lines:List (List UInt8)} {keys:List Nat} {vo vl vk:Value} {st:Nat→Int} {cc gc wc:Array Value} {gv:Nat→Int×Int} {T:Nat→List Nat} {ls:Nat→List Int} {dn:List (Nat×Int×Int)}
 (m:MIX al b wb tb cb gb base i most sv code wr d ops lines keys vo vl vk st cc gc wc gv T ls dn) (hB:BO b wb tb cb gb base) (h:Nat) (hh:h < 3) (hst:st h=1)
 (j kk k:Nat) (o:OpV) (hc1:cc[3*h+1]?=some (.int .i64 (j:Int))) (hc2:cc[3*h+2]?=some (.int .i64 (kk:Int))) (hj:ops[j]?=some o) (hc:o.cl=(h:Int) - 1) (hr:o.ret=0) (hk:k < opN i) (hn:o.name=opS i k) (ha:small o.arg) (hkk:kk < 3) (hz:i=0→kk=0)
 (hu:∀ j' o',ops[j']?=some o'→o'.cl=(h:Int) - 1→o'.ret=0→j'=j) (hi:i < 5) {w1 w':World} {xk xn:Int} {v':Value} {TS':List Nat} (hxe:(xk,xn)=(effP i k o.cl o.arg o.exp (ls kk)).2)
 (hnew:∀ x∈TS',x∈T kk∨wr.heap.size≤x) (hwb:w1.heap[wb]?=some (.cells (wc.setIfInBounds (1+kk) v') 67 (0,0))) (hrow:ThX w1 TS' v' (effP i k o.cl o.arg o.exp (ls kk)).1 (effP i k o.cl o.arg o.exp (ls kk)).1.length) (hstep:Kept ([wb]++T kk) wr w1)
 (hkp:Kept [gb,cb] w1 w') (hg:w'.heap[gb]?=some (.cells ((gc.setIfInBounds (2*j) (.int .i64 xk)).setIfInBounds (2*j+1) (.int .i64 xn)) 46 (0,0))) (hcb:w'.heap[cb]?=some (.cells (cc.setIfInBounds (3*h) (.int .i64 2)) 56 (0,0))):
 MIX al b wb tb cb gb base i most sv code w' d ops lines keys vo vl vk (upd st h 2) (cc.setIfInBounds (3*h) (.int .i64 2)) ((gc.setIfInBounds (2*j) (.int .i64 xk)).setIfInBounds (2*j+1) (.int .i64 xn)) (wc.setIfInBounds (1+kk) v') (upd gv j (xk,xn)) (upd T kk (TS'.filter (fun x=>decide (x < w'.heap.size)))) (upd ls kk (effP i k o.cl o.arg o.exp (ls kk)).1) (dn++[(j,(effP i k o.cl o.arg o.exp (ls kk)).2)]):=by
 obtain ⟨h1,h2,h3,h4,h5⟩:=hB
 have hs1:=hstep.size
 have hs2:=hkp.size
 have hbs:=m.bs
 have hjl:=(List.getElem?_eq_some_iff.1 hj).1
 have htl:=m.tl.tells.len
 have hll:=m.ll
 have hjm:j≤most:=by omega
 have hmm:=z3v most lines.length st h hh 2
 rw [hst] at hmm
 have s1:stF 1=2:=rfl
 have s2:stF 2=1:=rfl
 obtain ⟨v0,w1a,w1b,w1c,w1d⟩:=m.things kk hkk
 obtain ⟨hok,hlo,hn'⟩:=zmV (cl:=o.cl) (arg:=o.arg) (exp:=o.exp) hi hk w1b.small (show loN i≤(ls kk).length by unfold loN;split;(rename_i e;exact w1c e (hz e));omega)
 have hnotin:∀ x,base≤x→x∉T kk→x∉[wb]++T kk:=fun x hx hn hm=>by
  rcases List.mem_append.1 hm with hm | hm
  · simp at hm;omega
  · exact hn hm
 have hko:∀ g,vo.ownBlock=some g→g∉[wb]++T kk:=fun g hg=>hnotin g (m.tale.ops.lt g hg).1 (fun hm=>(m.ts kk hkk g hm).2.2.2.2.2.1 hg)
 have hkl:∀ g,vl.ownBlock=some g→g∉[wb]++T kk:=fun g hg=>hnotin g (m.tale.lines.lt g hg).1 (fun hm=>(m.ts kk hkk g hm).2.2.2.2.2.2.1 hg)
 have hkk':∀ g,vk.ownBlock=some g→g∉[wb]++T kk:=fun g hg=>hnotin g (m.tale.keys.lt g hg).1 (fun hm=>(m.ts kk hkk g hm).2.2.2.2.2.2.2.1 hg)
 have hlow:∀ x,(x=tb∨x=cb∨x=gb)→x∉[wb]++T kk:=fun x hx hm=>by
  rcases List.mem_append.1 hm with hm | hm
  · simp at hm;omega
  · have:=m.ts kk hkk x hm;omega
 have ht1:=m.tale.kept2 hstep (hlow tb (Or.inl rfl)) hko hkl hkk'
 have hd1:=m.dice.kept hstep (fun x hx=>by
  rcases List.mem_append.1 hx with hx | hx
  · simp at hx;omega
  · have:=m.ts kk hkk x hx;omega)
 have hTS2:∀ x,x∈TS'.filter (fun x=>decide (x < w'.heap.size))→x < w'.heap.size∧(x∈T kk∨wr.heap.size≤x):=fun x hx=>by
  obtain ⟨a,b⟩:=List.mem_filter.1 hx
  exact ⟨by simpa using b,hnew x a⟩
 have hdis:∀ x,x∈TS'.filter (fun x=>decide (x < w'.heap.size))→x∉[gb,cb]:=fun x hx hm=>by
  obtain ⟨_,hx2⟩:=hTS2 x hx
  simp only [List.mem_cons,List.not_mem_nil,or_false] at hm
  rcases hx2 with hx2 | hx2
  · have:=m.ts kk hkk x hx2;omega
  · omega
 refine ⟨hd1.kept hkp (by simp;omega),ht1.kept hkp (by simp;omega) (by simp;omega),m.kl,.did m.tl j k kk o hj hr hk hn ?_ ?_,m.ll,hcb,?_,hg,?_,?_,?_,?_,by omega⟩
 · obtain ⟨op,key,e1,e2,e3,hs,hx⟩:=m.seats h hh
   obtain ⟨j',kk',a1,a2,a3,a4,a5⟩:=hx (by rw [hst];decide)
   rw [hc1] at e2
   rw [hc2] at e3
   have b1:(j:Int)=op:=by simpa using e2
   have b2:(kk:Int)=key:=by simpa using e3
   obtain rfl:j'=j:=by omega
   obtain rfl:kk'=kk:=by omega
   exact a3
 · obtain ⟨op,key,e1,e2,e3,hs,hx⟩:=m.seats h hh
   obtain ⟨j',kk',a1,a2,a3,a4,a5⟩:=hx (by rw [hst];decide)
   rw [hc1] at e2
   have b1:(j:Int)=op:=by simpa using e2
   obtain rfl:j'=j:=by omega
   exact a4 hst
 · intro h' hh'
   obtain ⟨op,key,e1,e2,e3,hs,hx⟩:=m.seats h' hh'
   by_cases e:h'=h
   · subst e
     refine ⟨(j:Int),(kk:Int),?_,?_,?_,?_,?_⟩
     · rw [z5w];simp [(Array.getElem?_eq_some_iff.1 e1).1]
     · rw [Array.getElem?_setIfInBounds_ne (by omega)];exact hc1
     · rw [Array.getElem?_setIfInBounds_ne (by omega)];exact hc2
     · rw [z5w]
       exact .opened j kk k o 2 hj hc hr hk hn ha hkk hz hu (Or.inr ⟨rfl,by rw [z5w,hxe];exact hok⟩)
     · rw [z5w]
       obtain ⟨j',kk',a1,a2,a3,a4,a5⟩:=hx (by rw [hst];decide)
       rw [hc1] at e2
       rw [hc2] at e3
       have b1:(j:Int)=op:=by simpa using e2
       have b2:(kk:Int)=key:=by simpa using e3
       obtain rfl:j'=j:=by omega
       obtain rfl:kk'=kk:=by omega
       exact fun _=>⟨j',kk',rfl,rfl,a3,fun e=>absurd e (by decide),fun _=>by rw [z5w,hxe];simp⟩
   · have hjj:∀ (j':Nat),op=(j':Int)→st h'≠0→j'≠j:=by
      intro j' ej hne ejj
      rcases hs.three with h0 | ⟨j2,kk2,k2,o2,f1,f2,f3,f4,_⟩
      · exact hne h0
      · obtain rfl:j2=j:=by omega
        rw [hj] at f3
        injection f3 with f3
        subst f3
        omega
     refine ⟨op,key,?_,?_,?_,?_,?_⟩
     · rw [zkf _ _ e,Array.getElem?_setIfInBounds_ne (by omega)];exact e1
     · rw [Array.getElem?_setIfInBounds_ne (by omega)];exact e2
     · rw [Array.getElem?_setIfInBounds_ne (by omega)];exact e3
     · rw [zkf _ _ e]
       refine hs.gv fun j' o' hj' hc'=>zkf _ _ ?_
       intro e2
       subst e2
       rw [hj] at hj'
       injection hj' with hj'
       subst hj'
       omega
     · rw [zkf _ _ e]
       intro hne
       obtain ⟨j',kk',a1,a2,a3,a4,a5⟩:=hx hne
       have hn:=hjj j' a1 hne
       refine ⟨j',kk',a1,a2,a3,fun e1 p hp=>?_,fun e2=>?_⟩
       · rcases List.mem_append.1 hp with hp | hp
         · exact a4 e1 p hp
         · simp at hp;subst hp;exact fun e=>hn e.symm
       · rw [zkf _ _ hn];exact List.mem_append_left _ (a5 e2)
 · intro j' hj'
   have hsz:2*j+1 < gc.size:=(Array.getElem?_eq_some_iff.1 (m.gcell j hjm).2).1
   by_cases e:j'=j
   · subst e
     rw [z5w]
     refine ⟨?_,?_⟩
     · rw [Array.getElem?_setIfInBounds_ne (by omega),Array.getElem?_setIfInBounds_self_of_lt (by omega)]
     · rw [Array.getElem?_setIfInBounds_self_of_lt (by rw [Array.size_setIfInBounds];omega)]
   · rw [zkf _ _ e,Array.getElem?_setIfInBounds_ne (by omega),Array.getElem?_setIfInBounds_ne (by omega),Array.getElem?_setIfInBounds_ne (by omega),Array.getElem?_setIfInBounds_ne (by omega)]
     exact m.gcell j' hj'
 · exact (hkp.block wb (zCqB hwb) (by simp;omega)).trans hwb
 · intro q hq
   obtain ⟨v,e1,e2,e3,e4⟩:=m.things q hq
   by_cases e:q=kk
   · subst e
     rw [z5w,z5w]
     refine ⟨v',by simp [(Array.getElem?_eq_some_iff.1 e1).1],(hrow.keep hkp ?_).more ?_,fun hi0 hq0=>?_,by omega⟩
     rotate_left 2
     · rw [hi0] at hlo ⊢;exact hlo
     · intro x hx hm
       simp only [List.mem_cons,List.not_mem_nil,or_false] at hm
       rcases hnew x hx with hx2 | hx2
       · have:=m.ts q hq x hx2;omega
       · omega
     · intro x hx hl
       exact List.mem_filter.2 ⟨hx,by simpa using hl⟩
   · rw [zkf _ _ e,zkf _ _ e]
     refine ⟨v,?_,(e2.keep hstep ?_).keep hkp ?_,e3,by omega⟩
     · rw [Array.getElem?_setIfInBounds_ne (by omega)];exact e1
     · intro x hx hm
       obtain ⟨_,t2,_,_,_,_,_,_,t9⟩:=m.ts q hq x hx
       rcases List.mem_append.1 hm with hm | hm
       · simp at hm;omega
       · exact t9 kk hkk (fun h=>e h.symm) hm
     · intro x hx
       have:=m.ts q hq x hx
       simp;omega
 · intro q hq x hx
   by_cases e:q=kk
   · subst e
     rw [z5w] at hx
     obtain ⟨hx1,hx2⟩:=hTS2 x hx
     rcases hx2 with hx2 | hx2
     · obtain ⟨_,t2,t3,t4,t5,t6,t7,t8,t9⟩:=m.ts q hq x hx2
       exact ⟨hx1,t2,t3,t4,t5,t6,t7,t8,fun k' h1 h2=>by rw [zkf _ _ h2];exact t9 k' h1 h2⟩
     · exact ⟨hx1,by omega,by omega,by omega,by omega,fun e=>by have:=(m.tale.ops.lt x e).2;omega,fun e=>by have:=(m.tale.lines.lt x e).2;omega,fun e=>by have:=(m.tale.keys.lt x e).2;omega,fun k' h1 h2 hm=>by rw [zkf _ _ h2] at hm;have:=m.ts k' h1 x hm;omega⟩
   · rw [zkf _ _ e] at hx
     obtain ⟨t1,t2,t3,t4,t5,t6,t7,t8,t9⟩:=m.ts q hq x hx
     refine ⟨by omega,t2,t3,t4,t5,t6,t7,t8,fun k' h1 h2=>?_⟩
     by_cases e':k'=kk
     · subst e'
       rw [z5w]
       intro hm
       obtain ⟨_,hx2⟩:=hTS2 x hm
       rcases hx2 with hx2 | hx2
       · exact t9 k' h1 h2 hx2
       · omega
     · rw [zkf _ _ e'];exact t9 k' h1 h2
theorem MIX.back {al:Bool} {b wb tb cb gb base i most:Nat} {sv:Value} {code:List Int} {wr:World} {d:List Int} {ops:List OpV} {lines:List (List UInt8)} {keys:List Nat} {vo vl vk:Value} {st:Nat→Int} {cc gc wc:Array Value} {gv:Nat→Int×Int} {T:Nat→List Nat} {ls:Nat→List Int} {dn:List (Nat×Int×Int)}
 (m:MIX al b wb tb cb gb base i most sv code wr d ops lines keys vo vl vk st cc gc wc gv T ls dn) (hB:BO b wb tb cb gb base) (h:Nat) (hh:h < 3) (hst:st h=2) (hlt:lines.length < most)
 (j kk k:Nat) (o:OpV) (hc1:cc[3*h+1]?=some (.int .i64 (j:Int))) (hc2:cc[3*h+2]?=some (.int .i64 (kk:Int))) (hj:ops[j]?=some o) (hc:o.cl=(h:Int) - 1) (hr:o.ret=0) (hk:k < opN i) (hn:o.name=opS i k)
 (hu:∀ j' o',ops[j']?=some o'→o'.cl=(h:Int) - 1→o'.ret=0→j'=j) (hok:zxk i k (gv j).1 (gv j).2) {w':World} {d':List Int} {vl':Value}
 (hd:Dice w' b sv code d') (ht:Tale w' tb base i (ops.set j { o with vk:=(gv j).1,vn:=(gv j).2,ret:=(lines.length:Int)+1 }) (lines++[(zZ7 o.id (gv j).1 (gv j).2 d).1]) keys vo vl' vk) (n2:NewOr wr.heap.size vl vl')
 (hcb:w'.heap[cb]?=some (.cells (cc.setIfInBounds (3*h) (.int .i64 0)) 56 (0,0))) (hkp:Kept ([b,cb,tb]++(vl.ownBlock.toList++vo.ownBlock.toList)) wr w'):
 MIX al b wb tb cb gb base i most sv code w' d' (ops.set j { o with vk:=(gv j).1,vn:=(gv j).2,ret:=(lines.length:Int)+1 }) (lines++[(zZ7 o.id (gv j).1 (gv j).2 d).1]) keys vo vl' vk (upd st h 0) (cc.setIfInBounds (3*h) (.int .i64 0)) gc wc gv T ls dn:=by
 obtain ⟨h1,h2,h3,h4,h5⟩:=hB
 have hsz:=hkp.size
 have hbs:=m.bs
 have hjl:=(List.getElem?_eq_some_iff.1 hj).1
 have hS:∀ x,x∈[b,cb,tb]++(vl.ownBlock.toList++vo.ownBlock.toList)→x=b∨x=cb∨x=tb∨base≤x:=by
  intro x hx
  rcases List.mem_append.1 hx with hx | hx
  · simp only [List.mem_cons,List.not_mem_nil,or_false] at hx
    omega
  · rcases List.mem_append.1 hx with hx | hx
    · exact Or.inr (Or.inr (Or.inr (m.tale.lines.lt x (by simpa using hx)).1))
    · exact Or.inr (Or.inr (Or.inr (m.tale.ops.lt x (by simpa using hx)).1))
 have hTS:∀ q,q < 3→∀ x∈T q,x∉[b,cb,tb]++(vl.ownBlock.toList++vo.ownBlock.toList):=by
  intro q hq x hx hm
  obtain ⟨a1,a2,a3,a4,a5,a6,a7,a8,_⟩:=m.ts q hq x hx
  rcases List.mem_append.1 hm with hm | hm
  · simp only [List.mem_cons,List.not_mem_nil,or_false] at hm
    omega
  · rcases List.mem_append.1 hm with hm | hm
    · exact a7 (by simpa using hm)
    · exact a6 (by simpa using hm)
 refine ⟨hd,ht,m.kl.set hj rfl,.ret m.tl j k o _ _ d hj hr hk hn hok ?_,by simp;omega,hcb,?_,?_,m.gcell,?_,?_,?_,by omega⟩
 · obtain ⟨op,key,e1,e2,e3,hs,hx⟩:=m.seats h hh
   obtain ⟨j',kk',a1,a2,a3,a4,a5⟩:=hx (by rw [hst];decide)
   rw [hc1] at e2
   have b1:(j:Int)=op:=by simpa using e2
   obtain rfl:j'=j:=by omega
   exact a5 hst
 · intro h' hh'
   obtain ⟨op,key,e1,e2,e3,hs,hx⟩:=m.seats h' hh'
   by_cases e:h'=h
   · subst e
     refine ⟨(j:Int),(kk:Int),?_,?_,?_,?_,?_⟩
     rotate_right
     · rw [z5w];exact fun h=>absurd rfl h
     · rw [z5w];simp [(Array.getElem?_eq_some_iff.1 e1).1]
     · rw [Array.getElem?_setIfInBounds_ne (by omega)];exact hc1
     · rw [Array.getElem?_setIfInBounds_ne (by omega)];exact hc2
     · rw [z5w]
       refine .idle _ _ fun p hp hpc hpr=>?_
       obtain ⟨q,hq⟩:=List.mem_iff_getElem?.1 hp
       by_cases e:j=q
       · subst e
         rw [List.getElem?_set_self hjl] at hq
         injection hq with hq
         subst hq
         have hpr':(lines.length:Int)+1=0:=hpr
         omega
       · rw [List.getElem?_set_ne e] at hq
         exact e (hu q p hq hpc hpr).symm
   · refine ⟨op,key,?_,?_,?_,?_,by rw [zkf _ _ e];exact hx⟩
     · rw [zkf _ _ e,Array.getElem?_setIfInBounds_ne (by omega)];exact e1
     · rw [Array.getElem?_setIfInBounds_ne (by omega)];exact e2
     · rw [Array.getElem?_setIfInBounds_ne (by omega)];exact e3
     · rw [zkf _ _ e]
       exact hs.set j o _ hj (by rw [hc];omega) (by show o.cl≠_;rw [hc];omega)
 · exact (hkp.block gb (zCqB m.gblk) (fun hm=>by have:=hS _ hm;omega)).trans m.gblk
 · exact (hkp.block wb (zCqB m.wblk) (fun hm=>by have:=hS _ hm;omega)).trans m.wblk
 · intro q hq
   obtain ⟨v,e1,e2,e3,e4⟩:=m.things q hq
   refine ⟨v,e1,e2.keep hkp (hTS q hq),e3,?_⟩
   have hm1:=z3v most (lines.length+1) st h hh 0
   have hm2:=zeF most lines.length st hlt
   rw [hst] at hm1
   have s0:stF 0=0:=rfl
   have s2:stF 2=1:=rfl
   rw [List.length_append,List.length_cons,List.length_nil,Nat.zero_add]
   omega
 · intro q hq x hx
   obtain ⟨a1,a2,a3,a4,a5,a6,a7,a8,a9⟩:=m.ts q hq x hx
   refine ⟨by omega,a2,a3,a4,a5,a6,fun e=>?_,a8,a9⟩
   rcases n2 x e with e | e
   · exact a7 e
   · omega
end Go.Proofs.YtlkidmafomjhgaaGreatDoor.keep
