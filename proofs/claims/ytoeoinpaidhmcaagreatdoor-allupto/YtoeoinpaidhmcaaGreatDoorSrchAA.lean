/- Several texts in one. -/
import Derived.Test.YtoeoinpaidhmcaaGreatDoorHistX
import Derived.Deep.RegionHeld3
import Derived.Handy
set_option maxHeartbeats 4000000
set_option maxRecDepth 100000
namespace Go.Proofs.YtoeoinpaidhmcaaGreatDoor.srch
open Tryz
open Go.RowKit
def opAg (o:OpV):Value:=.agg #[.int .i64 o.id,.int .i64 o.cl,.string ⟨o.name.toArray⟩,.string ⟨o.key.toArray⟩,.int .i64 o.arg,.int .i64 o.exp,.int .i64 o.call,.int .i64 o.ret,.int .i64 o.vk,.int .i64 o.vn]
theorem znl (o:OpV)(w:World):
 Calls prog 127 #[opAg o] w fun e w'=>e=.returned (.bool (o.ret==0))∧Below w.heap.size w w':=by
 unfold opAg;go_enter func127,ntmps127;go_wp2;go_ret;exact⟨rfl,zA _ _⟩
abbrev Gr:=Int×Int
def grAg (g:Gr):Value:=.agg #[.int .u64 g.1,.int .u64 g.2]
def gHas (g:Gr)(p:Nat):Bool:=bits .and .u64 ((if p<64 then g.1 else g.2)/2 ^ (p%64)) 1 != 0
theorem has_any (g:Gr)(p:Nat)(j:p<128)(w:World):
 Calls prog 126 #[grAg g,.int .i64 (p:Int)] w fun e w'=>e=.returned (.bool (gHas g p))∧Below w.heap.size w w':=by
 obtain⟨a,b⟩:=g;unfold grAg gHas;dsimp only;by_cases h:p<64
 ·rw[if_pos h];have d:(p:Int)/64=0:=by omega
  have i:p/64=0:=by omega
  go_enter func126,ntmps126;go_wp2;go_ret;exact⟨rfl,zA _ _⟩
 ·rw[if_neg h];have d:(p:Int)/64=1:=by omega
  have i:p/64=1:=by omega
  go_enter func126,ntmps126;go_wp2;go_ret;exact⟨rfl,zA _ _⟩
def zdS (g:Gr)(p:Nat):Gr:=if p<64 then(bits .or .u64 g.1 (IntKind.u64.wrap (2 ^ (p%64))),g.2)else(g.1,bits .or .u64 g.2 (IntKind.u64.wrap (2 ^ (p%64))))
theorem zbf (e:Array Value)(W:World)(b:Nat)(a d:Value)(h:e[4]?.getD undef=.pointer (some ⟨b,0,none⟩))(g:W.heap[b]?=some (.cells #[a,d] 244 (0,0))):
 (results Tryz.f128 e).run prog W=.ok (.agg #[a,d]) W:=by
 have c0:W.cell? ⟨b,0,none⟩=some a:=by rw[zBk g];rfl
 have c1:W.cell? ⟨b,1,none⟩=some d:=by rw[zBk g];rfl
 simp[results,results128,go_sem,h,c0,c1]
theorem zxl (g:Gr)(p:Nat)(j:p<128)(w:World):
 Calls prog 128 #[grAg g,.int .i64 (p:Int)] w fun e w'=>e=.returned (grAg (zdS g p))∧Below w.heap.size w w':=by
 obtain⟨a,b⟩:=g;unfold grAg zdS;dsimp only;by_cases h:p<64
 ·rw[if_pos h];dsimp only;have d:(p:Int)/64=0:=by omega
  have i:p/64=0:=by omega
  go_enter func128,ntmps128;go_wp2;go_region
  all_goals
   go_wp2;refine bodyPost_ret (zbf _ _ (w.heap.size+1) _ _ (by simp) (ziF _ _ _ (by simp))) rfl ⟨rfl,((zA _ _).alloc (by simp) _).drew⟩
 ·rw[if_neg h];dsimp only;have d:(p:Int)/64=1:=by omega
  have i:p/64=1:=by omega
  go_enter func128,ntmps128;go_wp2;go_region
  all_goals
   go_wp2;refine bodyPost_ret (zbf _ _ (w.heap.size+1) _ _ (by simp) (ziF _ _ _ (by simp))) rfl ⟨rfl,((zA _ _).alloc (by simp) _).drew⟩
theorem idx0 (a b:Int)(W:World):(Instr.index 244 (.agg #[.int .u64 a,.int .u64 b]) (.int .i64 0)).run prog W=.ok (.int .u64 a) W:=by first|kernel_rfl|(simp[Instr.index,go_sem,underlying244];done)|rfl
theorem idx1 (a b:Int)(W:World):(Instr.index 244 (.agg #[.int .u64 a,.int .u64 b]) (.int .i64 1)).run prog W=.ok (.int .u64 b) W:=by first|kernel_rfl|(simp[Instr.index,go_sem,underlying244];done)|rfl
def zJn (g h:Gr):Bool:=!(bits .andNot .u64 g.1 h.1 != 0)&&!(bits .andNot .u64 g.2 h.2 != 0)
theorem zlR (g h:Gr)(w:World):
 Calls prog 124 #[grAg g,grAg h] w fun e w'=>e=.returned (.bool (zJn g h))∧Below w.heap.size w w':=by
 obtain⟨a,b⟩:=g;obtain⟨c,d⟩:=h;have j:=idx0 a b;have k:=idx1 a b;unfold grAg zJn;dsimp only;have hB:∀(o o':Obj),Below w.heap.size w ((w.alloc o).alloc o'):=fun o o'=>(zA _ _).alloc (by simp) _;have i:Hid (∀(o o':Obj),Below w.heap.size w ((w.alloc o).alloc o')):=hB;clear hB;cases h1:(bits .andNot .u64 a c != 0)<;>cases h2:(bits .andNot .u64 b d != 0)
 all_goals
  go_enter func124,ntmps124;go_wp2_with fail;go_rounds 3
  all_goals
   go_ret;exact⟨rfl,i.out _ _⟩
def zSA (o:OpV):Int:=if o.ret=0 then 129 else o.ret
def OAt (w:World)(oa:Option Addr)(ops:List OpV):Prop:=ops≠[]→∃g,oa=some ⟨g,0,none⟩∧g<w.heap.size∧∀j u,(opsRow ops)[j]?=some u→w.cell? ⟨g,j,none⟩=some u
theorem OAt.below {w w':World}{b:Option Addr}{a:List OpV}(h:OAt w b a)(k:Below w.heap.size w w'):OAt w' b a:=by
 intro e;obtain⟨g,i,d,l⟩:=h e;exact⟨g,i,zI d k.size,fun j u hj=>(k.cell (p:=⟨g,j,none⟩) d).trans (l j u hj)⟩
def retG:List OpV→Nat→Gr→Gr
 | [],_,g=>g
 |o::r,p,g=>retG r (p+1) (if o.ret=0 then g else zdS g p)
theorem zg8 (a:List OpV)(j:Nat)(h:j<a.length):retG (a.take (j+1)) 0 (0,0)=(if a[j].ret=0 then retG (a.take j) 0 (0,0)else zdS (retG (a.take j) 0 (0,0)) j):=by
 have key:∀(l:List OpV) (p:Nat) (g:Gr) (o:OpV),retG (l++[o]) p g=(if o.ret=0 then retG l p g else zdS (retG l p g) (p+l.length)):=by
  intro l
  induction l with
  |nil=>intro p g o;simp[retG]
  |cons x r ih=>intro p g o;show retG (r++[o]) (p+1) _=_;rw[ih];simp only [retG,List.length_cons];rw[show p+1+r.length=p+(r.length+1) by omega]
 rw[List.take_succ_eq_append_getElem h,key,List.length_take,Nat.min_eq_left (by omega),Nat.zero_add]
theorem zxLC (e:Array Value)(W:World)(b:Nat)(a d:Value)(h:e[2]?.getD undef=.pointer (some ⟨b,0,none⟩))(g:W.heap[b]?=some (.cells #[a,d] 244 (0,0))):
 (results Tryz.f123 e).run prog W=.ok (.agg #[a,d]) W:=by
 have c0:W.cell? ⟨b,0,none⟩=some a:=by rw[zBk g];rfl
 have c1:W.cell? ⟨b,1,none⟩=some d:=by rw[zBk g];rfl
 simp[results,results123,go_sem,h,c0,c1]
theorem ztU (O:Option Addr)(Q:Nat)(a:List OpV)(w:World)(Y:OAt w O a)(hl:a.length≤128):
 Calls prog 123 #[.slice O a.length Q] w fun e w'=>e=.returned (grAg (retG a 0 (0,0)))∧Below w.heap.size w w':=by
 have K:=fun o W=>znl o W;have F:=fun g p h W=>zxl g p h W;unfold opAg at K;unfold grAg at*;go_enter func123,ntmps123;have H:∀(o o':Obj),Below w.heap.size w ((w.alloc o).alloc o'):=fun o o'=>(zA _ _).alloc (by simp) _;have P:Hid (∀(o o':Obj),Below w.heap.size w ((w.alloc o).alloc o')):=H;clear H;go_wp2_with fail;go_loopw [8] (fun i wr=>∃(j:Nat),i=.int .i64 (j:Int)∧j≤a.length∧wr.heap[w.heap.size+1]?=some (.cells #[.int .u64 (retG (a.take j) 0 (0,0)).1,.int .u64 (retG (a.take j) 0 (0,0)).2] 244 (0,0))∧(∃x y,wr.heap[w.heap.size]?=some (.cells #[x,y] 244 (0,0)))∧Below w.heap.size w wr) (fun i _=>a.length-(intOf i).toNat)
 case atStart=>exact⟨0,rfl,by omega,ziF _ _ _ (by simp),⟨_,_,(zD1 _ _ _ (by simp)).trans (ziF _ _ _ rfl)⟩,P.out _ _⟩
 case round=>
  obtain⟨j,rfl,hj,hB,⟨x,y,d⟩,k⟩:=hrel;by_cases hin:j<a.length
  ·have M:(j:Int)<(a.length:Int):=(by omega);have N:a≠[]:=(by intro h;rw[h]at hin;simp at hin);obtain⟨g,rfl,hg,R⟩:=(Y.below k) N;have b:∀c u,c<10→(opvCells a[j])[c]?=some u→wr.cell? ⟨g,j*10+c,none⟩=some u:=fun c u hcc hu=>R _ _ ((zvc a j hin c hcc).trans hu);have C:Hid (retG (a.take (j+1)) 0 (0,0)=(if a[j].ret=0 then retG (a.take j) 0 (0,0)else zdS (retG (a.take j) 0 (0,0)) j)):=zg8 a j hin;generalize a[j]=o at*;have X:wr.cell? ⟨g,j*10,none⟩=some (.int .i64 o.id):=b 0 _ (by omega) rfl;have Z:=b 1 _ (by omega) rfl;have q2:=b 2 _ (by omega) rfl;have q3:=b 3 _ (by omega) rfl;have U:=b 4 _ (by omega) rfl;have q5:=b 5 _ (by omega) rfl;have q6:=b 6 _ (by omega) rfl;have q7:=b 7 _ (by omega) rfl;have V:=b 8 _ (by omega) rfl;have q9:=b 9 _ (by omega) rfl;have D:=K o;clear b R K;generalize hG:retG (a.take j) 0 (0,0)=G at*;clear hG;have J:=zBq hB;go_wp2_with fail;refine(D _).mono ?_;rintro e I ⟨rfl,E⟩;have q:Below wr.heap.size wr I:=(zA _ _).trans (E.mono (by simp));have l:=(q.block _ J).trans hB;have n:=(q.block _ (zBq d)).trans d;have m:=k.trans (q.mono k.size);clear D E X Z q2 q3 U q5 q6 q7 V q9 hB d k;cases hp:(o.ret==0)with
   |true=>
     have L:Hid (retG (a.take (j+1)) 0 (0,0)=G):=(by rw[C.out,if_pos (by simpa using hp)];exact rfl);clear C hp;go_wp2_with fail;go_roundw
     case rel=>exact⟨j+1,by go_num,by omega,by rw[L.out];exact l,⟨_,_,n⟩,m⟩
     case measure=>simp[intOf];omega
   |false=>
     have L:Hid (retG (a.take (j+1)) 0 (0,0)=zdS G j):=(by rw[C.out,if_neg (by simpa using hp)];exact rfl);have c0:I.cell? ⟨w.heap.size+1,0,none⟩=some (.int .u64 G.1):=(by rw[zBk l];rfl);have c1:I.cell? ⟨w.heap.size+1,1,none⟩=some (.int .u64 G.2):=(by rw[zBk l];rfl);have S:=F G j (by omega);clear C hp F;go_wp2_with fail;refine(S _).mono ?_;rintro e t ⟨rfl,s⟩;have r:=(s.block _ (zBq l)).trans l;have v:=(s.block _ (zBq n)).trans n;have A:=m.trans (s.mono m.size);have d0:t.cell? ⟨w.heap.size+1,0,none⟩=some (.int .u64 G.1):=(by rw[zBk r];rfl);have d1:t.cell? ⟨w.heap.size+1,1,none⟩=some (.int .u64 G.2):=(by rw[zBk r];rfl);have f0:=zBn r 0;have f1:=zBn r 1;clear S s q c0 c1;generalize zdS G j=G' at*;have B:Kept [w.heap.size+1] t ((t.setCell ⟨w.heap.size+1,0,none⟩ (.int .u64 G'.1)).setCell ⟨w.heap.size+1,1,none⟩ (.int .u64 G'.2)):=((Kept.refl _ _).setCell (p:=⟨w.heap.size+1,0,none⟩) (Or.inl (by simp)) _).setCell (p:=⟨w.heap.size+1,1,none⟩) (Or.inl (by simp)) _;have z:Hid (Kept [w.heap.size+1] t ((t.setCell ⟨w.heap.size+1,0,none⟩ (.int .u64 G'.1)).setCell ⟨w.heap.size+1,1,none⟩ (.int .u64 G'.2))):=B;clear B l n m;go_wp2_with fail;go_roundw
     case rel=>
      exact⟨j+1,by go_num,by omega,by rw[L.out,zFg (zFg r 0 _) 1 _];rfl,⟨_,_,(z.out.block _ (zBq v) (by simp)).trans v⟩,A.trans (z.out.below A.size (by simp))⟩
     case measure=>simp[intOf];omega
  ·have M:¬(j:Int)<(a.length:Int):=(by omega);obtain rfl:j=a.length:=(by omega);rw[List.take_length]at hB;have c0:wr.cell? ⟨w.heap.size+1,0,none⟩=some (.int .u64 (retG a 0 (0,0)).1):=(by rw[zBk hB];rfl);have c1:wr.cell? ⟨w.heap.size+1,1,none⟩=some (.int .u64 (retG a 0 (0,0)).2):=(by rw[zBk hB];rfl);have r0:wr.cell? ⟨w.heap.size,0,none⟩=some x:=(by rw[zBk d];rfl);have r1:wr.cell? ⟨w.heap.size,1,none⟩=some y:=(by rw[zBk d];rfl);have z0:=zBn d 0;have z1:=zBn d 1;have B:Kept [w.heap.size] wr ((wr.setCell ⟨w.heap.size,0,none⟩ (.int .u64 (retG a 0 (0,0)).1)).setCell ⟨w.heap.size,1,none⟩ (.int .u64 (retG a 0 (0,0)).2)):=((Kept.refl _ _).setCell (p:=⟨w.heap.size,0,none⟩) (Or.inl (by simp)) _).setCell (p:=⟨w.heap.size,1,none⟩) (Or.inl (by simp)) _;have z:Hid (Below w.heap.size w ((wr.setCell ⟨w.heap.size,0,none⟩ (.int .u64 (retG a 0 (0,0)).1)).setCell ⟨w.heap.size,1,none⟩ (.int .u64 (retG a 0 (0,0)).2))∧((wr.setCell ⟨w.heap.size,0,none⟩ (.int .u64 (retG a 0 (0,0)).1)).setCell ⟨w.heap.size,1,none⟩ (.int .u64 (retG a 0 (0,0)).2)).heap[w.heap.size]?=some (.cells #[.int .u64 (retG a 0 (0,0)).1,.int .u64 (retG a 0 (0,0)).2] 244 (0,0))):=
    ⟨k.trans (B.below k.size (by simp)),by rw[zFg (zFg d 0 _) 1 _];rfl⟩
   clear B hB d k;go_wp2;refine bodyPost_ret (zxLC _ _ w.heap.size _ _ (by simp) z.out.2) rfl ⟨rfl,z.out.1⟩
theorem Hid.mk' {p:Prop}(h:p):Hid p:=h
def vAg (k n:Int):Value:=.agg #[.int .i64 k,.int .i64 n]
theorem z3N (e:Array Value)(W:World)(b:Nat)(a d:Value)(h:e[2]?.getD undef=.pointer (some ⟨b,0,none⟩))(g:W.heap[b]?=some (.cells #[a,d] 25 (0,0))):
 (results Tryz.f245 e).run prog W=.ok (.agg #[a,d]) W∧(results Tryz.f246 e).run prog W=.ok (.agg #[a,d]) W:=by
 have c0:W.cell? ⟨b,0,none⟩=some a:=by rw[zBk g];rfl
 have c1:W.cell? ⟨b,1,none⟩=some d:=by rw[zBk g];rfl
 constructor
 ·simp[results,results245,go_sem,h,c0,c1]
 ·simp[results,results246,go_sem,h,c0,c1]
theorem zl7 (n:Int)(w:World):
 Calls prog 245 #[.int .i64 n] w fun e w'=>e=.returned (vAg 1 n)∧Below w.heap.size w w':=by
 unfold vAg;go_enter func245,ntmps245;go_wp2;refine bodyPost_ret (z3N _ _ w.heap.size _ _ (by simp) (ziF _ _ _ rfl)).1 rfl ⟨rfl,zA _ _⟩
def tI (b:Bool):Int:=if b then 1 else 0
theorem zqS (b:Bool)(w:World):
 Calls prog 246 #[.bool b] w fun e w'=>e=.returned (vAg 2 (tI b))∧Below w.heap.size w w':=by
 unfold vAg tI;cases b
 all_goals
  go_enter func246,ntmps246;go_wp2;refine bodyPost_ret (z3N _ _ w.heap.size _ _ (by simp) (ziF _ _ _ rfl)).2 rfl ⟨rfl,zA _ _⟩
def zCI (st:Int)(o:OpV):Int×Int×Int:=
 if o.name=[114,101,97,100]then(st,1,st)else if o.name=[119,114,105,116,101]then(o.arg,0,0)else if o.name=[99,97,115]then(if st=o.exp then(o.arg,2,1)else(st,2,0))else(st,0,0)
theorem zAD (a:Array Value)(W:World)(b:Nat)(s d e:Value)(h:a[6]?.getD undef=s)(i:a[7]?.getD undef=.pointer (some ⟨b,0,none⟩))(g:W.heap[b]?=some (.cells #[d,e] 25 (0,0))):
 (results Tryz.f242 a).run prog W=.ok (.tuple #[s,.agg #[d,e]]) W:=by
 have c0:W.cell? ⟨b,0,none⟩=some d:=by rw[zBk g];rfl
 have c1:W.cell? ⟨b,1,none⟩=some e:=by rw[zBk g];rfl
 simp[results,results242,go_sem,h,i,c0,c1]
theorem z2E (w:World)(a x y:Nat)(u v:Value):∀p:Addr,p.block≠a→((w.setCell ⟨a,x,none⟩ u).setCell ⟨a,y,none⟩ v).cell? p=w.cell? p:=fun p hp=>
 World.cell?_of_block (w:=w) (by rw[zRA hp,zRA hp])
theorem vset {W:World}{b:Nat}{x y:Value}(h:W.heap[b]?=some (.cells #[x,y] 25 (0,0)))(a d:Value):((W.setCell ⟨b,0,none⟩ a).setCell ⟨b,1,none⟩ d).heap[b]?=some (.cells #[a,d] 25 (0,0)):=by
 rw[zFg (zFg h 0 _) 1 _];rfl
theorem zh8 (st:Int)(o:OpV)(w:World):
 Calls prog 242 #[.agg #[],.int .i64 st,opAg o] w fun e w'=>e=.returned (.tuple #[.int .i64 (zCI st o).1,vAg (zCI st o).2.1 (zCI st o).2.2])∧Below w.heap.size w w':=by
 have D:=fun W=>zl7 st W;have A:=fun b W=>zqS b W;obtain⟨R,hR⟩:∃R,Hid (zCI st o=R):=⟨_,rfl⟩;rw[hR.out];unfold opAg vAg at*;obtain⟨i,P,n,v,g⟩:∃i,((w.alloc (.cells #[] 129)).alloc (.cells #[.int .i64 o.id,.int .i64 o.cl,.string ⟨o.name.toArray⟩,.string ⟨o.key.toArray⟩,.int .i64 o.arg,.int .i64 o.exp,.int .i64 o.call,.int .i64 o.ret,.int .i64 o.vk,.int .i64 o.vn] 27)).alloc (.cells #[.int .i64 0,.int .i64 0] 25)=i∧Below w.heap.size w i∧i.heap[w.heap.size+1]?=some (.cells #[.int .i64 o.id,.int .i64 o.cl,.string ⟨o.name.toArray⟩,.string ⟨o.key.toArray⟩,.int .i64 o.arg,.int .i64 o.exp,.int .i64 o.call,.int .i64 o.ret,.int .i64 o.vk,.int .i64 o.vn] 27 (0,0))∧i.heap[w.heap.size+1+1]?=some (.cells #[.int .i64 0,.int .i64 0] 25 (0,0)):=by
  refine⟨_,rfl,((zA _ _).alloc (by simp) _).alloc (by simp;omega) _,?_,ziF _ _ _ (by simp)⟩;rw[zD1 _ _ _ (by simp)];exact ziF _ _ _ (by simp)
 have Q:i.cell? ⟨w.heap.size+1,2,none⟩=some (.string ⟨o.name.toArray⟩):=zBk v 2;have K:i.cell? ⟨w.heap.size+1,4,none⟩=some (.int .i64 o.arg):=zBk v 4;have V:i.cell? ⟨w.heap.size+1,5,none⟩=some (.int .i64 o.exp):=zBk v 5;have F:=zBq v;have E:=n.size;have U:i.cell? ⟨w.heap.size+1+1,0,none⟩=some (.int .i64 0):=zBk g 0;have Y:i.cell? ⟨w.heap.size+1+1,1,none⟩=some (.int .i64 0):=zBk g 1;have S:=zBn g 0;have X:=zBn g 1;have G:∀(W W':World) (x y r t:Value),Below w.heap.size w W→W.heap[w.heap.size+1+1]?=some (.cells #[x,y] 25 (0,0))→W'=(W.setCell ⟨w.heap.size+1+1,0,none⟩ r).setCell ⟨w.heap.size+1+1,1,none⟩ t→Below w.heap.size w W'∧W'.heap[w.heap.size+1+1]?=some (.cells #[r,t] 25 (0,0)):=by
  intro W W' x y r t s z B;subst B;exact⟨(s.setCell (p:=⟨w.heap.size+1+1,0,none⟩) (by show w.heap.size≤w.heap.size+1+1;omega) _).setCell (p:=⟨w.heap.size+1+1,1,none⟩) (by show w.heap.size≤w.heap.size+1+1;omega) _,vset z _ _⟩
 have C:=Hid.mk' G;have H:=Hid.mk' (And.intro g n);clear G;go_enter func242,ntmps242;cases s:(o.name==[114,101,97,100])with
 |true=>
   have j:Hid (R=(st,1,st)):=(by rw[←hR.out];exact if_pos (by simpa using s));clear A;go_wp2_with fail;refine(D _).mono ?_;rintro e k ⟨rfl,d⟩;have a:=(d.block _ (zBq g)).trans g;have u:=(d.cell (p:=⟨w.heap.size+1,4,none⟩) F).trans K;have h:=n.trans (d.mono E);have c0:k.cell? ⟨w.heap.size+1+1,0,none⟩=some (.int .i64 0):=zBk a 0;have c1:k.cell? ⟨w.heap.size+1+1,1,none⟩=some (.int .i64 0):=zBk a 1;have O:=zBn a 0;have f1:=zBn a 1;have q:=Hid.mk' (And.intro a h);clear d a h;go_wp2;obtain⟨m,l⟩:=C.out _ _ _ _ _ _ q.out.2 q.out.1 rfl;refine bodyPost_ret (zAD _ _ (w.heap.size+1+1) (.int .i64 st) _ _ (by simp) (by simp) l) rfl ⟨by first|(rw[j.out];done)|(rw[j.out];rfl),m⟩
 |false=>
   cases z:(o.name==[119,114,105,116,101])with
   |true=>
     have j:Hid (R=(o.arg,0,0)):=(by rw[←hR.out];unfold zCI;rw[if_neg (by simpa using s),if_pos (by simpa using z)];exact rfl);clear A D hR;go_wp2;obtain⟨m,l⟩:=C.out _ _ _ _ _ _ H.out.2 H.out.1 rfl;refine bodyPost_ret (zAD _ _ (w.heap.size+1+1) (.int .i64 o.arg) _ _ (by simp) (by simp) l) rfl ⟨by first|(rw[j.out];done)|(rw[j.out];rfl),m⟩
   |false=>
     cases B:(o.name==[99,97,115])with
     |true=>
       cases h4:(st==o.exp)with
       |true=>
         have j:Hid (R=(o.arg,2,1)):=(by rw[←hR.out];unfold zCI;rw[if_neg (by simpa using s),if_neg (by simpa using z),if_pos (by simpa using B),if_pos (by simpa using h4)];exact rfl);have N:=A true;have I:Below i.heap.size i i.drew:=(zD).drew;have L:=Hid.mk' I;clear D A hR I;go_wp2_with fail;go_region_held3 (fun w'=>w'.cell? ⟨w.heap.size+1,4,none⟩=some (.int .i64 o.arg)) (first|exact M.out _ _|exact u|go_keep) (first
          |(go_at_call 246;refine(N _).mono ?_;rintro e k ⟨rfl,J⟩;have d:Below i.heap.size i k:=L.out.trans J;have a:=(d.block _ (zBq g)).trans g;have u:=(d.cell (p:=⟨w.heap.size+1,4,none⟩) F).trans K;have h:=n.trans (d.mono E);have c0:k.cell? ⟨w.heap.size+1+1,0,none⟩=some (.int .i64 0):=zBk a 0;have c1:k.cell? ⟨w.heap.size+1+1,1,none⟩=some (.int .i64 0):=zBk a 1;have O:=zBn a 0;have f1:=zBn a 1;have M:Hid (∀(r t:Value),((k.setCell ⟨w.heap.size+1+1,0,none⟩ r).setCell ⟨w.heap.size+1+1,1,none⟩ t).cell? ⟨w.heap.size+1,4,none⟩=some (.int .i64 o.arg)):=fun r t=>(z2E k (w.heap.size+1+1) 0 1 r t ⟨w.heap.size+1,4,none⟩ (by show w.heap.size+1≠w.heap.size+1+1;omega)).trans u;have q:=Hid.mk' (And.intro a h)))
         all_goals
          go_wp2;obtain⟨m,l⟩:=C.out _ _ _ _ _ _ q.out.2 q.out.1 rfl;refine bodyPost_ret (zAD _ _ (w.heap.size+1+1) (.int .i64 o.arg) _ _ (by simp) (by simp) l) rfl ⟨by first|(rw[j.out];done)|(rw[j.out];rfl),m⟩
       |false=>
         have j:Hid (R=(st,2,0)):=(by rw[←hR.out];unfold zCI;rw[if_neg (by simpa using s),if_neg (by simpa using z),if_pos (by simpa using B),if_neg (by simpa using h4)];exact rfl);clear D;go_wp2_with fail;refine(A false _).mono ?_;rintro e k ⟨rfl,d⟩;have a:=(d.block _ (zBq g)).trans g;have u:=(d.cell (p:=⟨w.heap.size+1,4,none⟩) F).trans K;have h:=n.trans (d.mono E);have c0:k.cell? ⟨w.heap.size+1+1,0,none⟩=some (.int .i64 0):=zBk a 0;have c1:k.cell? ⟨w.heap.size+1+1,1,none⟩=some (.int .i64 0):=zBk a 1;have O:=zBn a 0;have f1:=zBn a 1;have q:=Hid.mk' (And.intro a h);clear d a h;go_wp2;obtain⟨m,l⟩:=C.out _ _ _ _ _ _ q.out.2 q.out.1 rfl;refine bodyPost_ret (zAD _ _ (w.heap.size+1+1) (.int .i64 st) _ _ (by simp) (by simp) l) rfl ⟨by first|(rw[j.out];done)|(rw[j.out];rfl),m⟩
     |false=>
       have j:Hid (R=(st,0,0)):=(by rw[←hR.out];unfold zCI;rw[if_neg (by simpa using s),if_neg (by simpa using z),if_neg (by simpa using B)];exact rfl);clear A D hR;go_wp2;obtain⟨m,l⟩:=C.out _ _ _ _ _ _ H.out.2 H.out.1 rfl;refine bodyPost_ret (zAD _ _ (w.heap.size+1+1) (.int .i64 st) _ _ (by simp) (by simp) l) rfl ⟨by first|(rw[j.out];done)|(rw[j.out];rfl),m⟩
def zqY (st:Bool)(o:OpV):Bool×Int×Int:=
 if o.name=[97,100,100]then(true,2,tI (!st))else if o.name=[114,101,109]then(false,2,tI st)else if o.name=[104,97,115]then(st,2,tI st)else(st,0,0)
theorem zUOg (a:Array Value)(W:World)(b:Nat)(s d e:Value)(h:a[6]?.getD undef=s)(i:a[7]?.getD undef=.pointer (some ⟨b,0,none⟩))(g:W.heap[b]?=some (.cells #[d,e] 25 (0,0))):
 (results Tryz.f264 a).run prog W=.ok (.tuple #[s,.agg #[d,e]]) W:=by
 have c0:W.cell? ⟨b,0,none⟩=some d:=by rw[zBk g];rfl
 have c1:W.cell? ⟨b,1,none⟩=some e:=by rw[zBk g];rfl
 simp[results,results264,go_sem,h,i,c0,c1]
theorem z2q (st:Bool)(o:OpV)(w:World):
 Calls prog 264 #[.agg #[],.bool st,opAg o] w fun e w'=>e=.returned (.tuple #[.bool (zqY st o).1,vAg (zqY st o).2.1 (zqY st o).2.2])∧Below w.heap.size w w':=by
 have A:=fun b W=>zqS b W;obtain⟨R,hR⟩:∃R,Hid (zqY st o=R):=⟨_,rfl⟩;rw[hR.out];unfold opAg vAg at*;obtain⟨m,G,j,E,h⟩:∃m,((w.alloc (.cells #[] 137)).alloc (.cells #[.int .i64 o.id,.int .i64 o.cl,.string ⟨o.name.toArray⟩,.string ⟨o.key.toArray⟩,.int .i64 o.arg,.int .i64 o.exp,.int .i64 o.call,.int .i64 o.ret,.int .i64 o.vk,.int .i64 o.vn] 27)).alloc (.cells #[.int .i64 0,.int .i64 0] 25)=m∧Below w.heap.size w m∧m.heap[w.heap.size+1]?=some (.cells #[.int .i64 o.id,.int .i64 o.cl,.string ⟨o.name.toArray⟩,.string ⟨o.key.toArray⟩,.int .i64 o.arg,.int .i64 o.exp,.int .i64 o.call,.int .i64 o.ret,.int .i64 o.vk,.int .i64 o.vn] 27 (0,0))∧m.heap[w.heap.size+1+1]?=some (.cells #[.int .i64 0,.int .i64 0] 25 (0,0)):=by
  refine⟨_,rfl,((zA _ _).alloc (by simp) _).alloc (by simp;omega) _,?_,ziF _ _ _ (by simp)⟩;rw[zD1 _ _ _ (by simp)];exact ziF _ _ _ (by simp)
 have H:m.cell? ⟨w.heap.size+1,2,none⟩=some (.string ⟨o.name.toArray⟩):=zBk E 2;have t:=j.size;have J:m.cell? ⟨w.heap.size+1+1,0,none⟩=some (.int .i64 0):=zBk h 0;have L:m.cell? ⟨w.heap.size+1+1,1,none⟩=some (.int .i64 0):=zBk h 1;have I:=zBn h 0;have K:=zBn h 1;have u:∀(W W':World) (x y B C:Value),Below w.heap.size w W→W.heap[w.heap.size+1+1]?=some (.cells #[x,y] 25 (0,0))→W'=(W.setCell ⟨w.heap.size+1+1,0,none⟩ B).setCell ⟨w.heap.size+1+1,1,none⟩ C→Below w.heap.size w W'∧W'.heap[w.heap.size+1+1]?=some (.cells #[B,C] 25 (0,0)):=by
  intro W W' x y B C r s v;subst v;exact⟨(r.setCell (p:=⟨w.heap.size+1+1,0,none⟩) (by show w.heap.size≤w.heap.size+1+1;omega) _).setCell (p:=⟨w.heap.size+1+1,1,none⟩) (by show w.heap.size≤w.heap.size+1+1;omega) _,vset s _ _⟩
 have z:=Hid.mk' u;have D:=Hid.mk' (And.intro h j);clear u;go_enter func264,ntmps264;cases r:(o.name==[97,100,100])with
 |true=>
   have i:Hid (R=(true,2,tI (!st))):=(by rw[←hR.out];exact if_pos (by simpa using r));go_wp2_with fail;refine(A (!st) _).mono ?_;rintro e k ⟨rfl,g⟩;have a:=(g.block _ (zBq h)).trans h;have d:=j.trans (g.mono t);have c0:k.cell? ⟨w.heap.size+1+1,0,none⟩=some (.int .i64 0):=zBk a 0;have c1:k.cell? ⟨w.heap.size+1+1,1,none⟩=some (.int .i64 0):=zBk a 1;have F:=zBn a 0;have f1:=zBn a 1;have l:=Hid.mk' (And.intro a d);clear g a d;go_wp2;obtain⟨q,n⟩:=z.out _ _ _ _ _ _ l.out.2 l.out.1 rfl;refine bodyPost_ret (zUOg _ _ (w.heap.size+1+1) (.bool true) _ _ (by simp) (by simp) n) rfl ⟨by first|(rw[i.out];done)|(rw[i.out];rfl),q⟩
 |false=>
   cases s:(o.name==[114,101,109])with
   |true=>
     have i:Hid (R=(false,2,tI st)):=(by rw[←hR.out];unfold zqY;rw[if_neg (by simpa using r),if_pos (by simpa using s)];exact rfl);go_wp2_with fail;refine(A st _).mono ?_;rintro e k ⟨rfl,g⟩;have a:=(g.block _ (zBq h)).trans h;have d:=j.trans (g.mono t);have c0:k.cell? ⟨w.heap.size+1+1,0,none⟩=some (.int .i64 0):=zBk a 0;have c1:k.cell? ⟨w.heap.size+1+1,1,none⟩=some (.int .i64 0):=zBk a 1;have F:=zBn a 0;have f1:=zBn a 1;have l:=Hid.mk' (And.intro a d);clear g a d;go_wp2;obtain⟨q,n⟩:=z.out _ _ _ _ _ _ l.out.2 l.out.1 rfl;refine bodyPost_ret (zUOg _ _ (w.heap.size+1+1) (.bool false) _ _ (by simp) (by simp) n) rfl ⟨by first|(rw[i.out];done)|(rw[i.out];rfl),q⟩
   |false=>
     cases v:(o.name==[104,97,115])with
     |true=>
       have i:Hid (R=(st,2,tI st)):=(by rw[←hR.out];unfold zqY;rw[if_neg (by simpa using r),if_neg (by simpa using s),if_pos (by simpa using v)];exact rfl);go_wp2_with fail;refine(A st _).mono ?_;rintro e k ⟨rfl,g⟩;have a:=(g.block _ (zBq h)).trans h;have d:=j.trans (g.mono t);have c0:k.cell? ⟨w.heap.size+1+1,0,none⟩=some (.int .i64 0):=zBk a 0;have c1:k.cell? ⟨w.heap.size+1+1,1,none⟩=some (.int .i64 0):=zBk a 1;have F:=zBn a 0;have f1:=zBn a 1;have l:=Hid.mk' (And.intro a d);clear g a d;go_wp2;obtain⟨q,n⟩:=z.out _ _ _ _ _ _ l.out.2 l.out.1 rfl;refine bodyPost_ret (zUOg _ _ (w.heap.size+1+1) (.bool st) _ _ (by simp) (by simp) n) rfl ⟨by first|(rw[i.out];done)|(rw[i.out];rfl),q⟩
     |false=>
       have i:Hid (R=(st,0,0)):=(by rw[←hR.out];unfold zqY;rw[if_neg (by simpa using r),if_neg (by simpa using s),if_neg (by simpa using v)];exact rfl);clear A hR;go_wp2;obtain⟨q,n⟩:=z.out _ _ _ _ _ _ D.out.2 D.out.1 rfl;refine bodyPost_ret (zUOg _ _ (w.heap.size+1+1) (.bool st) _ _ (by simp) (by simp) n) rfl ⟨by first|(rw[i.out];done)|(rw[i.out];rfl),q⟩
abbrev Ph:=Bool×Int
def stDo (st:Ph)(o:OpV):Ph×Int×Int:=
 if o.name=[103,101,116]then(if st.1=true then(st,1,st.2)else(st,0,0))else if o.name=[112,117,116]then((true,o.arg),0,0)else if o.name=[100,101,108]then((false,0),2,tI st.1)else(st,0,0)
theorem zbl (e:Array Value)(W:World)(h g:Nat)(a b c d:Value)(k:e[6]?.getD undef=.pointer (some ⟨h,0,none⟩))(l:e[7]?.getD undef=.pointer (some ⟨g,0,none⟩))(m:W.heap[h]?=some (.cells #[a,b] 132 (0,0)))(i:W.heap[g]?=some (.cells #[c,d] 25 (0,0))):
 (results Tryz.f250 e).run prog W=.ok (.tuple #[.agg #[a,b],.agg #[c,d]]) W∧(results Tryz.f267 e).run prog W=.ok (.tuple #[.agg #[a,b],.agg #[c,d]]) W:=by
 have j:W.cell? ⟨h,0,none⟩=some a:=by rw[zBk m];rfl
 have n:W.cell? ⟨h,1,none⟩=some b:=by rw[zBk m];rfl
 have c0:W.cell? ⟨g,0,none⟩=some c:=by rw[zBk i];rfl
 have c1:W.cell? ⟨g,1,none⟩=some d:=by rw[zBk i];rfl
 constructor
 ·simp[results,results250,go_sem,k,l,j,n,c0,c1]
 ·simp[results,results267,go_sem,k,l,j,n,c0,c1]
theorem four {w W:World} {g e:Nat} {x y m n:Value} (h:Below w.heap.size w W) (k:w.heap.size≤g) (j:w.heap.size≤e) (i:g≠e) (l:W.heap[g]?=some (.cells #[x,y] 132 (0,0))) (o:W.heap[e]?=some (.cells #[m,n] 25 (0,0))) (a b c d:Value) (W':World)
 (q:W'=(((W.setCell ⟨g,0,none⟩ a).setCell ⟨g,1,none⟩ b).setCell ⟨e,0,none⟩ c).setCell ⟨e,1,none⟩ d):Below w.heap.size w W'∧W'.heap[g]?=some (.cells #[a,b] 132 (0,0))∧W'.heap[e]?=some (.cells #[c,d] 25 (0,0)):=by
 subst q;refine⟨(((h.setCell (p:=⟨g,0,none⟩) k _).setCell (p:=⟨g,1,none⟩) k _).setCell (p:=⟨e,0,none⟩) j _).setCell (p:=⟨e,1,none⟩) j _,?_,?_⟩
 ·rw[zRA i,zRA i,zFg (zFg l 0 _) 1 _];rfl
 ·rw[zFg (zFg (by rw[zRA i.symm,zRA i.symm];exact o) 0 _) 1 _];rfl
theorem zYu (p:Bool)(n:Int)(o:OpV)(w:World):
 Calls prog 250 #[.agg #[],.agg #[.bool p,.int .i64 n],opAg o] w fun e w'=>e=.returned (.tuple #[.agg #[.bool (stDo (p,n) o).1.1,.int .i64 (stDo (p,n) o).1.2],vAg (stDo (p,n) o).2.1 (stDo (p,n) o).2.2])∧Below w.heap.size w w':=by
 have F:=fun W=>zl7 n W;have B:=fun W=>zqS p W;obtain⟨R,hR⟩:∃R,Hid (stDo (p,n) o=R):=⟨_,rfl⟩;rw[hR.out];unfold opAg vAg at*;obtain⟨h,P,C,y,A,q,r⟩:∃h,((((w.alloc (.cells #[] 133)).alloc (.cells #[.bool p,.int .i64 n] 132)).alloc (.cells #[.int .i64 o.id,.int .i64 o.cl,.string ⟨o.name.toArray⟩,.string ⟨o.key.toArray⟩,.int .i64 o.arg,.int .i64 o.exp,.int .i64 o.call,.int .i64 o.ret,.int .i64 o.vk,.int .i64 o.vn] 27)).alloc (.cells #[.bool false,.int .i64 0] 132)).alloc (.cells #[.int .i64 0,.int .i64 0] 25)=h∧Below w.heap.size w h∧h.heap[w.heap.size+1]?=some (.cells #[.bool p,.int .i64 n] 132 (0,0))∧h.heap[w.heap.size+1+1]?=some (.cells #[.int .i64 o.id,.int .i64 o.cl,.string ⟨o.name.toArray⟩,.string ⟨o.key.toArray⟩,.int .i64 o.arg,.int .i64 o.exp,.int .i64 o.call,.int .i64 o.ret,.int .i64 o.vk,.int .i64 o.vn] 27 (0,0))∧h.heap[w.heap.size+1+1+1]?=some (.cells #[.bool false,.int .i64 0] 132 (0,0))∧h.heap[w.heap.size+1+1+1+1]?=some (.cells #[.int .i64 0,.int .i64 0] 25 (0,0)):=by
  refine⟨_,rfl,((((zA _ _).alloc (by simp) _).alloc (by first|(simp;done)|(simp;omega)) _).alloc (by first|(simp;done)|(simp;omega)) _).alloc (by first|(simp;done)|(simp;omega)) _,?_,?_,?_,ziF _ _ _ (by simp)⟩
  ·rw[zD1 _ _ _ (by first|(simp;done)|(simp;omega)),zD1 _ _ _ (by first|(simp;done)|(simp;omega)),zD1 _ _ _ (by simp)];exact ziF _ _ _ (by simp)
  ·rw[zD1 _ _ _ (by first|(simp;done)|(simp;omega)),zD1 _ _ _ (by simp)];exact ziF _ _ _ (by simp)
  ·rw[zD1 _ _ _ (by simp)];exact ziF _ _ _ (by simp)
 have s0:h.cell? ⟨w.heap.size+1,0,none⟩=some (.bool p):=zBk y 0;have S:h.cell? ⟨w.heap.size+1,1,none⟩=some (.int .i64 n):=zBk y 1;have a1:h.cell? ⟨w.heap.size+1+1,1,none⟩=some (.int .i64 o.cl):=zBk A 1;have Q:h.cell? ⟨w.heap.size+1+1,2,none⟩=some (.string ⟨o.name.toArray⟩):=zBk A 2;have a4:h.cell? ⟨w.heap.size+1+1,4,none⟩=some (.int .i64 o.arg):=zBk A 4;have G:=C.size;have V:h.cell? ⟨w.heap.size+1+1+1,0,none⟩=some (.bool false):=zBk q 0;have Y:h.cell? ⟨w.heap.size+1+1+1,1,none⟩=some (.int .i64 0):=zBk q 1;have U:=zBn q 0;have x1:=zBn q 1;have Z:h.cell? ⟨w.heap.size+1+1+1+1,0,none⟩=some (.int .i64 0):=zBk r 0;have e1:h.cell? ⟨w.heap.size+1+1+1+1,1,none⟩=some (.int .i64 0):=zBk r 1;have X:=zBn r 0;have z1:=zBn r 1;have g:=Hid.mk' (And.intro C (And.intro q (And.intro r y)));clear C q r y A;go_enter func250,ntmps250;cases h1:(o.name==[103,101,116])with
 |true=>
   cases p with
   |true=>
     have m:Hid (R=((true,n),1,n)):=(by rw[←hR.out];unfold stDo;rw[if_pos (by simpa using h1),if_pos rfl];exact rfl);clear B hR;have I:=Hid.mk' (show Below h.heap.size h h.drew from(zD).drew);go_wp2_with fail;go_region_held3 (fun w'=>w'.cell? ⟨w.heap.size+1,0,none⟩=some (.bool true)∧w'.cell? ⟨w.heap.size+1,1,none⟩=some (.int .i64 n)) (first|(with_reducible exact J.out _ _ _ _)|(with_reducible exact D.out _ _)|(with_reducible exact E)|go_keep) (first
      |(go_at_call 245;refine(F _).mono ?_;rintro e k ⟨rfl,H⟩;have l:Below h.heap.size h k:=I.out.trans H;have j:=(l.block _ (zBq g.out.2.1)).trans g.out.2.1;have i:=(l.block _ (zBq g.out.2.2.1)).trans g.out.2.2.1;have z:=(l.block _ (zBq g.out.2.2.2)).trans g.out.2.2.2;have s:=g.out.1.trans (l.mono G);have L:k.cell? ⟨w.heap.size+1+1+1,0,none⟩=some (.bool false):=zBk j 0;have M:k.cell? ⟨w.heap.size+1+1+1,1,none⟩=some (.int .i64 0):=zBk j 1;have K:=zBn j 0;have O:=zBn j 1;have c0:k.cell? ⟨w.heap.size+1+1+1+1,0,none⟩=some (.int .i64 0):=zBk i 0;have c1:k.cell? ⟨w.heap.size+1+1+1+1,1,none⟩=some (.int .i64 0):=zBk i 1;have N:=zBn i 0;have f1:=zBn i 1;have x:=Hid.mk' (And.intro s (And.intro j i));have E:k.cell? ⟨w.heap.size+1,0,none⟩=some (.bool true)∧k.cell? ⟨w.heap.size+1,1,none⟩=some (.int .i64 n):=⟨zBk z 0,zBk z 1⟩;have D:Hid (∀a b:Value,((k.setCell ⟨w.heap.size+1+1+1,0,none⟩ a).setCell ⟨w.heap.size+1+1+1,1,none⟩ b).cell? ⟨w.heap.size+1,0,none⟩=some (.bool true)∧((k.setCell ⟨w.heap.size+1+1+1,0,none⟩ a).setCell ⟨w.heap.size+1+1+1,1,none⟩ b).cell? ⟨w.heap.size+1,1,none⟩=some (.int .i64 n)):=fun a b=>⟨(z2E _ _ _ _ _ _ _ (by show w.heap.size+1≠w.heap.size+1+1+1;omega)).trans E.1,(z2E _ _ _ _ _ _ _ (by show w.heap.size+1≠w.heap.size+1+1+1;omega)).trans E.2⟩;have J:Hid (∀a b c d:Value,((((k.setCell ⟨w.heap.size+1+1+1,0,none⟩ a).setCell ⟨w.heap.size+1+1+1,1,none⟩ b).setCell ⟨w.heap.size+1+1+1+1,0,none⟩ c).setCell ⟨w.heap.size+1+1+1+1,1,none⟩ d).cell? ⟨w.heap.size+1,0,none⟩=some (.bool true)∧((((k.setCell ⟨w.heap.size+1+1+1,0,none⟩ a).setCell ⟨w.heap.size+1+1+1,1,none⟩ b).setCell ⟨w.heap.size+1+1+1+1,0,none⟩ c).setCell ⟨w.heap.size+1+1+1+1,1,none⟩ d).cell? ⟨w.heap.size+1,1,none⟩=some (.int .i64 n)):=fun a b c d=>⟨(z2E _ _ _ _ _ _ _ (by show w.heap.size+1≠w.heap.size+1+1+1+1;omega)).trans (D.out a b).1,(z2E _ _ _ _ _ _ _ (by show w.heap.size+1≠w.heap.size+1+1+1+1;omega)).trans (D.out a b).2⟩))
     all_goals
      go_wp2;obtain⟨v,t,u⟩:=four x.out.1 (by omega) (by omega) (by omega) x.out.2.1 x.out.2.2 _ _ _ _ _ rfl;refine bodyPost_ret (zbl _ _ (w.heap.size+1+1+1) (w.heap.size+1+1+1+1) _ _ _ _ (by simp) (by simp) t u).1 rfl ⟨by first|(rw[m.out];done)|(rw[m.out];rfl),v⟩
   |false=>
     have m:Hid (R=((false,n),0,0)):=(by rw[←hR.out];unfold stDo;rw[if_pos (by simpa using h1),if_neg (by simp)];exact rfl);clear B F hR;go_wp2;obtain⟨v,t,u⟩:=four g.out.1 (by omega) (by omega) (by omega) g.out.2.1 g.out.2.2.1 _ _ _ _ _ rfl;refine bodyPost_ret (zbl _ _ (w.heap.size+1+1+1) (w.heap.size+1+1+1+1) _ _ _ _ (by simp) (by simp) t u).1 rfl ⟨by first|(rw[m.out];done)|(rw[m.out];rfl),v⟩
 |false=>
   cases h2:(o.name==[112,117,116])with
   |true=>
     have m:Hid (R=((true,o.arg),0,0)):=(by rw[←hR.out];unfold stDo;rw[if_neg (by simpa using h1),if_pos (by simpa using h2)];exact rfl);clear B F hR;go_wp2;obtain⟨v,t,u⟩:=four g.out.1 (by omega) (by omega) (by omega) g.out.2.1 g.out.2.2.1 _ _ _ _ _ rfl;refine bodyPost_ret (zbl _ _ (w.heap.size+1+1+1) (w.heap.size+1+1+1+1) _ _ _ _ (by simp) (by simp) t u).1 rfl ⟨by first|(rw[m.out];done)|(rw[m.out];rfl),v⟩
   |false=>
     cases h3:(o.name==[100,101,108])with
     |true=>
       have m:Hid (R=((false,0),2,tI p)):=(by rw[←hR.out];unfold stDo;rw[if_neg (by simpa using h1),if_neg (by simpa using h2),if_pos (by simpa using h3)];exact rfl);clear F hR;go_wp2_with fail;refine(B _).mono ?_;rintro e k ⟨rfl,l⟩;have j:=(l.block _ (zBq g.out.2.1)).trans g.out.2.1;have i:=(l.block _ (zBq g.out.2.2.1)).trans g.out.2.2.1;have z:=(l.block _ (zBq g.out.2.2.2)).trans g.out.2.2.2;have s:=g.out.1.trans (l.mono G);have L:k.cell? ⟨w.heap.size+1+1+1,0,none⟩=some (.bool false):=zBk j 0;have M:k.cell? ⟨w.heap.size+1+1+1,1,none⟩=some (.int .i64 0):=zBk j 1;have K:=zBn j 0;have O:=zBn j 1;have c0:k.cell? ⟨w.heap.size+1+1+1+1,0,none⟩=some (.int .i64 0):=zBk i 0;have c1:k.cell? ⟨w.heap.size+1+1+1+1,1,none⟩=some (.int .i64 0):=zBk i 1;have N:=zBn i 0;have f1:=zBn i 1;have x:=Hid.mk' (And.intro s (And.intro j i));clear B l j i z s;go_wp2;obtain⟨v,t,u⟩:=four x.out.1 (by omega) (by omega) (by omega) x.out.2.1 x.out.2.2 _ _ _ _ _ rfl;refine bodyPost_ret (zbl _ _ (w.heap.size+1+1+1) (w.heap.size+1+1+1+1) _ _ _ _ (by simp) (by simp) t u).1 rfl ⟨by first|(rw[m.out];done)|(rw[m.out];rfl),v⟩
     |false=>
       have m:Hid (R=((p,n),0,0)):=(by rw[←hR.out];unfold stDo;rw[if_neg (by simpa using h1),if_neg (by simpa using h2),if_neg (by simpa using h3)];exact rfl);clear B F hR;go_wp2;obtain⟨v,t,u⟩:=four g.out.1 (by omega) (by omega) (by omega) g.out.2.1 g.out.2.2.1 _ _ _ _ _ rfl;refine bodyPost_ret (zbl _ _ (w.heap.size+1+1+1) (w.heap.size+1+1+1+1) _ _ _ _ (by simp) (by simp) t u).1 rfl ⟨by first|(rw[m.out];done)|(rw[m.out];rfl),v⟩
def lkDo (st:Ph)(o:OpV):Ph×Int×Int:=
 if o.name=[97,99,113]then(if st.1=false then((true,o.cl),2,1)else(st,2,0))else if o.name=[114,101,108]then(if st=(true,o.cl)then((false,0),2,1)else(st,2,0))else(st,0,0)
theorem zV7 (z:Bool)(n:Int)(o:OpV)(w:World):
 Calls Tryz.prog 267 #[.agg #[],.agg #[.bool z,.int .i64 n],opAg o] w fun e w'=>e=.returned (.tuple #[.agg #[.bool (lkDo (z,n) o).1.1,.int .i64 (lkDo (z,n) o).1.2],vAg (lkDo (z,n) o).2.1 (lkDo (z,n) o).2.2])∧Below w.heap.size w w':=by
 have K:=fun b W=>zqS b W;obtain⟨R,hR⟩:∃R,Hid (lkDo (z,n) o=R):=⟨_,rfl⟩;rw[hR.out];unfold opAg vAg at*;obtain⟨h,Z,E,I,U,u,v,F⟩:∃h,(((((w.alloc (.cells #[] 139)).alloc (.cells #[.bool z,.int .i64 n] 132)).alloc (.cells #[.int .i64 o.id,.int .i64 o.cl,.string ⟨o.name.toArray⟩,.string ⟨o.key.toArray⟩,.int .i64 o.arg,.int .i64 o.exp,.int .i64 o.call,.int .i64 o.ret,.int .i64 o.vk,.int .i64 o.vn] 27)).alloc (.cells #[.bool false,.int .i64 0] 132)).alloc (.cells #[.int .i64 0,.int .i64 0] 25)).alloc (.cells #[.bool true,.int .i64 o.cl] 132)=h∧Below w.heap.size w h∧h.heap[w.heap.size+1]?=some (.cells #[.bool z,.int .i64 n] 132 (0,0))∧h.heap[w.heap.size+1+1]?=some (.cells #[.int .i64 o.id,.int .i64 o.cl,.string ⟨o.name.toArray⟩,.string ⟨o.key.toArray⟩,.int .i64 o.arg,.int .i64 o.exp,.int .i64 o.call,.int .i64 o.ret,.int .i64 o.vk,.int .i64 o.vn] 27 (0,0))∧h.heap[w.heap.size+1+1+1]?=some (.cells #[.bool false,.int .i64 0] 132 (0,0))∧h.heap[w.heap.size+1+1+1+1]?=some (.cells #[.int .i64 0,.int .i64 0] 25 (0,0))∧h.heap[w.heap.size+1+1+1+1+1]?=some (.cells #[.bool true,.int .i64 o.cl] 132 (0,0)):=by
  refine⟨_,rfl,(((((zA _ _).alloc (by simp) _).alloc (by first|(simp;done)|(simp;omega)) _).alloc (by first|(simp;done)|(simp;omega)) _).alloc (by first|(simp;done)|(simp;omega)) _).alloc (by first|(simp;done)|(simp;omega)) _,?_,?_,?_,?_,ziF _ _ _ (by simp)⟩
  ·rw[zD1 _ _ _ (by first|(simp;done)|(simp;omega)),zD1 _ _ _ (by first|(simp;done)|(simp;omega)),zD1 _ _ _ (by first|(simp;done)|(simp;omega)),zD1 _ _ _ (by simp)];exact ziF _ _ _ (by simp)
  ·rw[zD1 _ _ _ (by first|(simp;done)|(simp;omega)),zD1 _ _ _ (by first|(simp;done)|(simp;omega)),zD1 _ _ _ (by simp)];exact ziF _ _ _ (by simp)
  ·rw[zD1 _ _ _ (by first|(simp;done)|(simp;omega)),zD1 _ _ _ (by simp)];exact ziF _ _ _ (by simp)
  ·rw[zD1 _ _ _ (by simp)];exact ziF _ _ _ (by simp)
 have s0:h.cell? ⟨w.heap.size+1,0,none⟩=some (.bool z):=zBk I 0;have s1:h.cell? ⟨w.heap.size+1,1,none⟩=some (.int .i64 n):=zBk I 1;have k0:h.cell? ⟨w.heap.size+1+1+1+1+1,0,none⟩=some (.bool true):=zBk F 0;have k1:h.cell? ⟨w.heap.size+1+1+1+1+1,1,none⟩=some (.int .i64 o.cl):=zBk F 1;have a2:h.cell? ⟨w.heap.size+1+1,2,none⟩=some (.string ⟨o.name.toArray⟩):=zBk U 2;have S:=E.size;have p0:h.cell? ⟨w.heap.size+1+1+1,0,none⟩=some (.bool false):=zBk u 0;have p1:h.cell? ⟨w.heap.size+1+1+1,1,none⟩=some (.int .i64 0):=zBk u 1;have x0:=zBn u 0;have x1:=zBn u 1;have e0:h.cell? ⟨w.heap.size+1+1+1+1,0,none⟩=some (.int .i64 0):=zBk v 0;have e1:h.cell? ⟨w.heap.size+1+1+1+1,1,none⟩=some (.int .i64 0):=zBk v 1;have z0:=zBn v 0;have z1:=zBn v 1;have r:=Hid.mk' (And.intro E (And.intro u (And.intro v (And.intro I F))));have G:=Hid.mk' (show Below h.heap.size h h.drew from(zD).drew);have H:Hid (∀(g:World) (t:Nat) (x y:Value),Below h.heap.size h g→h.heap[t]?=some (.cells #[x,y] 132 (0,0))→t≠w.heap.size+1+1+1→t≠w.heap.size+1+1+1+1→
  g.cell? ⟨w.heap.size+1+1+1,0,none⟩=some (.bool false)∧g.cell? ⟨w.heap.size+1+1+1,1,none⟩=some (.int .i64 0)∧g.frozen? ⟨w.heap.size+1+1+1,0,none⟩=false∧g.frozen? ⟨w.heap.size+1+1+1,1,none⟩=false∧g.cell? ⟨w.heap.size+1+1+1+1,0,none⟩=some (.int .i64 0)∧g.cell? ⟨w.heap.size+1+1+1+1,1,none⟩=some (.int .i64 0)∧g.frozen? ⟨w.heap.size+1+1+1+1,0,none⟩=false∧g.frozen? ⟨w.heap.size+1+1+1+1,1,none⟩=false∧
  Hid (Below w.heap.size w g∧g.heap[w.heap.size+1+1+1]?=some (.cells #[.bool false,.int .i64 0] 132 (0,0))∧g.heap[w.heap.size+1+1+1+1]?=some (.cells #[.int .i64 0,.int .i64 0] 25 (0,0)))∧
  (g.cell? ⟨t,0,none⟩=some x∧g.cell? ⟨t,1,none⟩=some y)∧Hid (∀a b:Value,((g.setCell ⟨w.heap.size+1+1+1,0,none⟩ a).setCell ⟨w.heap.size+1+1+1,1,none⟩ b).cell? ⟨t,0,none⟩=some x∧((g.setCell ⟨w.heap.size+1+1+1,0,none⟩ a).setCell ⟨w.heap.size+1+1+1,1,none⟩ b).cell? ⟨t,1,none⟩=some y)∧
  Hid (∀a b c d:Value,((((g.setCell ⟨w.heap.size+1+1+1,0,none⟩ a).setCell ⟨w.heap.size+1+1+1,1,none⟩ b).setCell ⟨w.heap.size+1+1+1+1,0,none⟩ c).setCell ⟨w.heap.size+1+1+1+1,1,none⟩ d).cell? ⟨t,0,none⟩=some x∧((((g.setCell ⟨w.heap.size+1+1+1,0,none⟩ a).setCell ⟨w.heap.size+1+1+1,1,none⟩ b).setCell ⟨w.heap.size+1+1+1+1,0,none⟩ c).setCell ⟨w.heap.size+1+1+1+1,1,none⟩ d).cell? ⟨t,1,none⟩=some y)):=by
  intro g t x y p hB V Y;have k:=(p.block _ (zBq u)).trans u;have j:=(p.block _ (zBq v)).trans v;have J:=(p.block _ (zBq hB)).trans hB;have m:g.cell? ⟨t,0,none⟩=some x∧g.cell? ⟨t,1,none⟩=some y:=⟨zBk J 0,zBk J 1⟩;have l:∀a b:Value,((g.setCell ⟨w.heap.size+1+1+1,0,none⟩ a).setCell ⟨w.heap.size+1+1+1,1,none⟩ b).cell? ⟨t,0,none⟩=some x∧((g.setCell ⟨w.heap.size+1+1+1,0,none⟩ a).setCell ⟨w.heap.size+1+1+1,1,none⟩ b).cell? ⟨t,1,none⟩=some y:=fun a b=>⟨(z2E _ _ _ _ _ _ _ V).trans m.1,(z2E _ _ _ _ _ _ _ V).trans m.2⟩;exact⟨zBk k 0,zBk k 1,zBn k 0,zBn k 1,zBk j 0,zBk j 1,zBn j 0,zBn j 1,⟨E.trans (p.mono S),k,j⟩,m,l,fun a b c d=>⟨(z2E _ _ _ _ _ _ _ Y).trans (l a b).1,(z2E _ _ _ _ _ _ _ Y).trans (l a b).2⟩⟩
 clear E u v I U F;go_enter Tryz.func267,Tryz.ntmps267;cases h1:(o.name==[97,99,113])with
 |true=>
   cases z with
   |false=>
     have q:Hid (R=((true,o.cl),2,1)):=(by rw[←hR.out];unfold lkDo;rw[if_pos (by simpa using h1),if_pos rfl];exact rfl);clear hR;go_wp2_with fail;go_region_held3 (fun w'=>w'.cell? ⟨w.heap.size+1+1+1+1+1,0,none⟩=some (.bool true)∧w'.cell? ⟨w.heap.size+1+1+1+1+1,1,none⟩=some (.int .i64 o.cl)) (first|(with_reducible exact D.out _ _ _ _)|(with_reducible exact l.out _ _)|(with_reducible exact m)|go_keep) (first
      | (go_at_call 246;refine(K true _).mono ?_;rintro e g ⟨rfl,s⟩;obtain⟨N,O,M,Q,c0,c1,P,f1,i,m,l,D⟩:=H.out g _ _ _ (G.out.trans s) r.out.2.2.2.2 (by omega) (by omega)))
     all_goals
      go_wp2;obtain⟨C,A,B⟩:=four i.out.1 (by omega) (by omega) (by omega) i.out.2.1 i.out.2.2 _ _ _ _ _ rfl;refine bodyPost_ret (zbl _ _ (w.heap.size+1+1+1) (w.heap.size+1+1+1+1) _ _ _ _ (by simp) (by simp) A B).2 rfl ⟨by first|(rw[q.out];done)|(rw[q.out];rfl),C⟩
   |true=>
     have q:Hid (R=((true,n),2,0)):=(by rw[←hR.out];unfold lkDo;rw[if_pos (by simpa using h1),if_neg (by simp)];exact rfl);clear hR;go_wp2_with fail;go_region_held3 (fun w'=>w'.cell? ⟨w.heap.size+1,0,none⟩=some (.bool true)∧w'.cell? ⟨w.heap.size+1,1,none⟩=some (.int .i64 n)) (first|(with_reducible exact D.out _ _ _ _)|(with_reducible exact l.out _ _)|(with_reducible exact m)|go_keep) (first
      | (go_at_call 246;refine(K false _).mono ?_;rintro e g ⟨rfl,s⟩;obtain⟨N,O,M,Q,c0,c1,P,f1,i,m,l,D⟩:=H.out g _ _ _ (G.out.trans s) r.out.2.2.2.1 (by omega) (by omega)))
     all_goals
      go_wp2;obtain⟨C,A,B⟩:=four i.out.1 (by omega) (by omega) (by omega) i.out.2.1 i.out.2.2 _ _ _ _ _ rfl;refine bodyPost_ret (zbl _ _ (w.heap.size+1+1+1) (w.heap.size+1+1+1+1) _ _ _ _ (by simp) (by simp) A B).2 rfl ⟨by first|(rw[q.out];done)|(rw[q.out];rfl),C⟩
 |false=>
   cases h2:(o.name==[114,101,108])with
   |true=>
     cases z with
     |false=>
       have q:Hid (R=((false,n),2,0)):=(by rw[←hR.out];unfold lkDo;rw[if_neg (by simpa using h1),if_pos (by simpa using h2),if_neg (by simp)];exact rfl);clear hR;go_wp2_with fail;go_region_held3 (fun w'=>w'.cell? ⟨w.heap.size+1,0,none⟩=some (.bool false)∧w'.cell? ⟨w.heap.size+1,1,none⟩=some (.int .i64 n)) (first|(with_reducible exact D.out _ _ _ _)|(with_reducible exact l.out _ _)|(with_reducible exact m)|go_keep) (first
        | (go_at_call 246;refine(K false _).mono ?_;rintro e g ⟨rfl,s⟩;obtain⟨N,O,M,Q,c0,c1,P,f1,i,m,l,D⟩:=H.out g _ _ _ (G.out.trans s) r.out.2.2.2.1 (by omega) (by omega)))
       all_goals
        go_wp2;obtain⟨C,A,B⟩:=four i.out.1 (by omega) (by omega) (by omega) i.out.2.1 i.out.2.2 _ _ _ _ _ rfl;refine bodyPost_ret (zbl _ _ (w.heap.size+1+1+1) (w.heap.size+1+1+1+1) _ _ _ _ (by simp) (by simp) A B).2 rfl ⟨by first|(rw[q.out];done)|(rw[q.out];rfl),C⟩
     |true=>
       cases h3:(n==o.cl)with
       |true=>
         have q:Hid (R=((false,0),2,1)):=(by rw[←hR.out];unfold lkDo;rw[if_neg (by simpa using h1),if_pos (by simpa using h2),if_pos (by simpa using h3)];exact rfl);clear hR;go_wp2_with fail;refine(K true _).mono ?_;rintro e g ⟨rfl,p⟩;have k:=(p.block _ (zBq r.out.2.1)).trans r.out.2.1;have j:=(p.block _ (zBq r.out.2.2.1)).trans r.out.2.2.1;have X:=(p.block _ (zBq r.out.2.2.2.1)).trans r.out.2.2.2.1;have J:=(p.block _ (zBq r.out.2.2.2.2)).trans r.out.2.2.2.2;have L:=r.out.1.trans (p.mono S);have N:g.cell? ⟨w.heap.size+1+1+1,0,none⟩=some (.bool false):=zBk k 0;have O:g.cell? ⟨w.heap.size+1+1+1,1,none⟩=some (.int .i64 0):=zBk k 1;have M:=zBn k 0;have Q:=zBn k 1;have c0:g.cell? ⟨w.heap.size+1+1+1+1,0,none⟩=some (.int .i64 0):=zBk j 0;have c1:g.cell? ⟨w.heap.size+1+1+1+1,1,none⟩=some (.int .i64 0):=zBk j 1;have P:=zBn j 0;have f1:=zBn j 1;have i:=Hid.mk' (And.intro L (And.intro k j));clear p k j X J L;go_wp2;obtain⟨C,A,B⟩:=four i.out.1 (by omega) (by omega) (by omega) i.out.2.1 i.out.2.2 _ _ _ _ _ rfl;refine bodyPost_ret (zbl _ _ (w.heap.size+1+1+1) (w.heap.size+1+1+1+1) _ _ _ _ (by simp) (by simp) A B).2 rfl ⟨by first|(rw[q.out];done)|(rw[q.out];rfl),C⟩
       |false=>
         have q:Hid (R=((true,n),2,0)):=(by rw[←hR.out];unfold lkDo;rw[if_neg (by simpa using h1),if_pos (by simpa using h2),if_neg (by simpa using h3)];exact rfl);clear hR;go_wp2_with fail;go_region_held3 (fun w'=>w'.cell? ⟨w.heap.size+1,0,none⟩=some (.bool true)∧w'.cell? ⟨w.heap.size+1,1,none⟩=some (.int .i64 n)) (first|(with_reducible exact D.out _ _ _ _)|(with_reducible exact l.out _ _)|(with_reducible exact m)|go_keep) (first
          | (go_at_call 246;refine(K false _).mono ?_;rintro e g ⟨rfl,s⟩;obtain⟨N,O,M,Q,c0,c1,P,f1,i,m,l,D⟩:=H.out g _ _ _ (G.out.trans s) r.out.2.2.2.1 (by omega) (by omega)))
         all_goals
          go_wp2;obtain⟨C,A,B⟩:=four i.out.1 (by omega) (by omega) (by omega) i.out.2.1 i.out.2.2 _ _ _ _ _ rfl;refine bodyPost_ret (zbl _ _ (w.heap.size+1+1+1) (w.heap.size+1+1+1+1) _ _ _ _ (by simp) (by simp) A B).2 rfl ⟨by first|(rw[q.out];done)|(rw[q.out];rfl),C⟩
   |false=>
     have q:Hid (R=((z,n),0,0)):=(by rw[←hR.out];unfold lkDo;rw[if_neg (by simpa using h1),if_neg (by simpa using h2)];exact rfl);clear K hR;go_wp2;obtain⟨C,A,B⟩:=four r.out.1 (by omega) (by omega) (by omega) r.out.2.1 r.out.2.2.1 _ _ _ _ _ rfl;refine bodyPost_ret (zbl _ _ (w.heap.size+1+1+1) (w.heap.size+1+1+1+1) _ _ _ _ (by simp) (by simp) A B).2 rfl ⟨by first|(rw[q.out];done)|(rw[q.out];rfl),C⟩
end Go.Proofs.YtoeoinpaidhmcaaGreatDoor.srch
