/- Several texts in one. -/
import Derived.Test.YtbbkihekjdffpaaGreatDoorHistX
import Derived.Deep.RegionHeld3
import Derived.Handy
set_option maxHeartbeats 4000000
set_option maxRecDepth 100000
namespace Go.Proofs.YtbbkihekjdffpaaGreatDoor.srch
open Tryz
open Go.RowKit
def opAg (o:OpV):Value:=.agg #[.int .i64 o.id,.int .i64 o.cl,.string ⟨o.name.toArray⟩,.string ⟨o.key.toArray⟩,.int .i64 o.arg,.int .i64 o.exp,.int .i64 o.call,.int .i64 o.ret,.int .i64 o.vk,.int .i64 o.vn]
theorem znl (o:OpV)(w:World):
 Calls prog 83 #[opAg o] w fun e w'=>e=.returned (.bool (o.ret==0))∧Below w.heap.size w w':=by
 unfold opAg;go_enter func83,ntmps83;go_wp2;go_ret;exact⟨rfl,zA _ _⟩
abbrev Gr:=Int×Int
def grAg (g:Gr):Value:=.agg #[.int .u64 g.1,.int .u64 g.2]
def gHas (g:Gr)(p:Nat):Bool:=bits .and .u64 ((if p<64 then g.1 else g.2)/2 ^ (p%64)) 1 != 0
theorem has_any (g:Gr)(p:Nat)(hp:p<128)(w:World):
 Calls prog 82 #[grAg g,.int .i64 (p:Int)] w fun e w'=>e=.returned (.bool (gHas g p))∧Below w.heap.size w w':=by
 obtain⟨a,b⟩:=g;unfold grAg gHas;dsimp only;by_cases h:p<64
 ·rw[if_pos h];have h1:(p:Int)/64=0:=by omega
  have h2:p/64=0:=by omega
  go_enter func82,ntmps82;go_wp2;go_ret;exact⟨rfl,zA _ _⟩
 ·rw[if_neg h];have h1:(p:Int)/64=1:=by omega
  have h2:p/64=1:=by omega
  go_enter func82,ntmps82;go_wp2;go_ret;exact⟨rfl,zA _ _⟩
def zdS (g:Gr)(p:Nat):Gr:=if p<64 then(bits .or .u64 g.1 (IntKind.u64.wrap (2 ^ (p%64))),g.2)else(g.1,bits .or .u64 g.2 (IntKind.u64.wrap (2 ^ (p%64))))
theorem zbf (tm:Array Value)(W:World)(b:Nat)(v0 v1:Value)(h7:tm[4]?.getD undef=.pointer (some ⟨b,0,none⟩))(hb:W.heap[b]?=some (.cells #[v0,v1] 161 (0,0))):
 (results Tryz.f84 tm).run prog W=.ok (.agg #[v0,v1]) W:=by
 have c0:W.cell? ⟨b,0,none⟩=some v0:=by rw[zBk hb];rfl
 have c1:W.cell? ⟨b,1,none⟩=some v1:=by rw[zBk hb];rfl
 simp[results,results84,go_sem,h7,c0,c1]
theorem zxl (g:Gr)(p:Nat)(hp:p<128)(w:World):
 Calls prog 84 #[grAg g,.int .i64 (p:Int)] w fun e w'=>e=.returned (grAg (zdS g p))∧Below w.heap.size w w':=by
 obtain⟨a,b⟩:=g;unfold grAg zdS;dsimp only;by_cases h:p<64
 ·rw[if_pos h];dsimp only;have h1:(p:Int)/64=0:=by omega
  have h2:p/64=0:=by omega
  go_enter func84,ntmps84;go_wp2;go_region
  all_goals
   go_wp2;refine bodyPost_ret (zbf _ _ (w.heap.size+1) _ _ (by simp) (ziF _ _ _ (by simp))) rfl ⟨rfl,((zA _ _).alloc (by simp) _).drew⟩
 ·rw[if_neg h];dsimp only;have h1:(p:Int)/64=1:=by omega
  have h2:p/64=1:=by omega
  go_enter func84,ntmps84;go_wp2;go_region
  all_goals
   go_wp2;refine bodyPost_ret (zbf _ _ (w.heap.size+1) _ _ (by simp) (ziF _ _ _ (by simp))) rfl ⟨rfl,((zA _ _).alloc (by simp) _).drew⟩
theorem idx0 (a b:Int)(W:World):(Instr.index 161 (.agg #[.int .u64 a,.int .u64 b]) (.int .i64 0)).run prog W=.ok (.int .u64 a) W:=by first|kernel_rfl|(simp[Instr.index,go_sem,underlying161];done)|rfl
theorem idx1 (a b:Int)(W:World):(Instr.index 161 (.agg #[.int .u64 a,.int .u64 b]) (.int .i64 1)).run prog W=.ok (.int .u64 b) W:=by first|kernel_rfl|(simp[Instr.index,go_sem,underlying161];done)|rfl
def zJn (g h:Gr):Bool:=!(bits .andNot .u64 g.1 h.1 != 0)&&!(bits .andNot .u64 g.2 h.2 != 0)
theorem zlR (g h:Gr)(w:World):
 Calls prog 80 #[grAg g,grAg h] w fun e w'=>e=.returned (.bool (zJn g h))∧Below w.heap.size w w':=by
 obtain⟨a,b⟩:=g;obtain⟨c,d⟩:=h;have i0:=idx0 a b;have i1:=idx1 a b;unfold grAg zJn;dsimp only;have hB:∀(o o':Obj),Below w.heap.size w ((w.alloc o).alloc o'):=fun o o'=>(zA _ _).alloc (by simp) _;have HB:Hid (∀(o o':Obj),Below w.heap.size w ((w.alloc o).alloc o')):=hB;clear hB;cases h1:(bits .andNot .u64 a c != 0)<;>cases h2:(bits .andNot .u64 b d != 0)
 all_goals
  go_enter func80,ntmps80;go_wp2_with fail;go_rounds 3
  all_goals
   go_ret;exact⟨rfl,HB.out _ _⟩
def zSA (o:OpV):Int:=if o.ret=0 then 129 else o.ret
def OAt (w:World)(oa:Option Addr)(ops:List OpV):Prop:=ops≠[]→∃g,oa=some ⟨g,0,none⟩∧g<w.heap.size∧∀j u,(opsRow ops)[j]?=some u→w.cell? ⟨g,j,none⟩=some u
theorem OAt.below {w w':World}{oa:Option Addr}{ops:List OpV}(h:OAt w oa ops)(k:Below w.heap.size w w'):OAt w' oa ops:=by
 intro hne;obtain⟨g,h1,h2,h3⟩:=h hne;exact⟨g,h1,zH h2 k.size,fun j u hj=>(k.cell (p:=⟨g,j,none⟩) h2).trans (h3 j u hj)⟩
def retG:List OpV→Nat→Gr→Gr
 | [],_,g=>g
 |o::r,p,g=>retG r (p+1) (if o.ret=0 then g else zdS g p)
theorem zg8 (ops:List OpV)(j:Nat)(h:j<ops.length):retG (ops.take (j+1)) 0 (0,0)=(if ops[j].ret=0 then retG (ops.take j) 0 (0,0)else zdS (retG (ops.take j) 0 (0,0)) j):=by
 have key:∀(l:List OpV) (p:Nat) (g:Gr) (o:OpV),retG (l++[o]) p g=(if o.ret=0 then retG l p g else zdS (retG l p g) (p+l.length)):=by
  intro l
  induction l with
  |nil=>intro p g o;simp[retG]
  |cons x r ih=>intro p g o;show retG (r++[o]) (p+1) _=_;rw[ih];simp only [retG,List.length_cons];rw[show p+1+r.length=p+(r.length+1) by omega]
 rw[List.take_succ_eq_append_getElem h,key,List.length_take,Nat.min_eq_left (by omega),Nat.zero_add]
theorem zxLC (tm:Array Value)(W:World)(b:Nat)(v0 v1:Value)(h7:tm[2]?.getD undef=.pointer (some ⟨b,0,none⟩))(hb:W.heap[b]?=some (.cells #[v0,v1] 161 (0,0))):
 (results Tryz.f79 tm).run prog W=.ok (.agg #[v0,v1]) W:=by
 have c0:W.cell? ⟨b,0,none⟩=some v0:=by rw[zBk hb];rfl
 have c1:W.cell? ⟨b,1,none⟩=some v1:=by rw[zBk hb];rfl
 simp[results,results79,go_sem,h7,c0,c1]
theorem ztU (oa:Option Addr)(cap:Nat)(ops:List OpV)(w:World)(hr:OAt w oa ops)(hl:ops.length≤128):
 Calls prog 79 #[.slice oa ops.length cap] w fun e w'=>e=.returned (grAg (retG ops 0 (0,0)))∧Below w.heap.size w w':=by
 have hP:=fun o W=>znl o W;have hWi:=fun g p h W=>zxl g p h W;unfold opAg at hP;unfold grAg at*;go_enter func79,ntmps79;have hst:∀(o o':Obj),Below w.heap.size w ((w.alloc o).alloc o'):=fun o o'=>(zA _ _).alloc (by simp) _;have HST:Hid (∀(o o':Obj),Below w.heap.size w ((w.alloc o).alloc o')):=hst;clear hst;go_wp2_with fail;go_loopw [8] (fun i wr=>∃(j:Nat),i=.int .i64 (j:Int)∧j≤ops.length∧wr.heap[w.heap.size+1]?=some (.cells #[.int .u64 (retG (ops.take j) 0 (0,0)).1,.int .u64 (retG (ops.take j) 0 (0,0)).2] 161 (0,0))∧(∃x y,wr.heap[w.heap.size]?=some (.cells #[x,y] 161 (0,0)))∧Below w.heap.size w wr) (fun i _=>ops.length-(intOf i).toNat)
 case atStart=>exact⟨0,rfl,by omega,ziF _ _ _ (by simp),⟨_,_,(zD1 _ _ _ (by simp)).trans (ziF _ _ _ rfl)⟩,HST.out _ _⟩
 case round=>
  obtain⟨j,rfl,hj,hB,⟨x,y,hRb⟩,hbl⟩:=hrel;by_cases hin:j<ops.length
  ·have hin':(j:Int)<(ops.length:Int):=(by omega);have hne:ops≠[]:=(by intro h;rw[h]at hin;simp at hin);obtain⟨g,rfl,hg,hc⟩:=(hr.below hbl) hne;have hcell:∀c u,c<10→(opvCells ops[j])[c]?=some u→wr.cell? ⟨g,j*10+c,none⟩=some u:=fun c u hcc hu=>hc _ _ ((zvc ops j hin c hcc).trans hu);have hT:Hid (retG (ops.take (j+1)) 0 (0,0)=(if ops[j].ret=0 then retG (ops.take j) 0 (0,0)else zdS (retG (ops.take j) 0 (0,0)) j)):=zg8 ops j hin;generalize ops[j]=o at*;have q0:wr.cell? ⟨g,j*10,none⟩=some (.int .i64 o.id):=hcell 0 _ (by omega) rfl;have q1:=hcell 1 _ (by omega) rfl;have q2:=hcell 2 _ (by omega) rfl;have q3:=hcell 3 _ (by omega) rfl;have q4:=hcell 4 _ (by omega) rfl;have q5:=hcell 5 _ (by omega) rfl;have q6:=hcell 6 _ (by omega) rfl;have q7:=hcell 7 _ (by omega) rfl;have q8:=hcell 8 _ (by omega) rfl;have q9:=hcell 9 _ (by omega) rfl;have hPo:=hP o;clear hcell hc hP;generalize hG:retG (ops.take j) 0 (0,0)=G at*;clear hG;have hltA:=zBq hB;go_wp2_with fail;refine(hPo _).mono ?_;rintro e w2 ⟨rfl,hb2⟩;have hb02:Below wr.heap.size wr w2:=(zA _ _).trans (hb2.mono (by simp));have hB2:=(hb02.block _ hltA).trans hB;have hRb2:=(hb02.block _ (zBq hRb)).trans hRb;have hbl2:=hbl.trans (hb02.mono hbl.size);clear hPo hb2 q0 q1 q2 q3 q4 q5 q6 q7 q8 q9 hB hRb hbl;cases hp:(o.ret==0)with
   |true=>
     have hE:Hid (retG (ops.take (j+1)) 0 (0,0)=G):=(by rw[hT.out,if_pos (by simpa using hp)];exact rfl);clear hT hp;go_wp2_with fail;go_roundw
     case rel=>exact⟨j+1,by go_num,by omega,by rw[hE.out];exact hB2,⟨_,_,hRb2⟩,hbl2⟩
     case measure=>simp[intOf];omega
   |false=>
     have hE:Hid (retG (ops.take (j+1)) 0 (0,0)=zdS G j):=(by rw[hT.out,if_neg (by simpa using hp)];exact rfl);have c0:w2.cell? ⟨w.heap.size+1,0,none⟩=some (.int .u64 G.1):=(by rw[zBk hB2];rfl);have c1:w2.cell? ⟨w.heap.size+1,1,none⟩=some (.int .u64 G.2):=(by rw[zBk hB2];rfl);have hW:=hWi G j (by omega);clear hT hp hWi;go_wp2_with fail;refine(hW _).mono ?_;rintro e w3 ⟨rfl,hb3⟩;have hB3:=(hb3.block _ (zBq hB2)).trans hB2;have hRb3:=(hb3.block _ (zBq hRb2)).trans hRb2;have hbl3:=hbl2.trans (hb3.mono hbl2.size);have d0:w3.cell? ⟨w.heap.size+1,0,none⟩=some (.int .u64 G.1):=(by rw[zBk hB3];rfl);have d1:w3.cell? ⟨w.heap.size+1,1,none⟩=some (.int .u64 G.2):=(by rw[zBk hB3];rfl);have f0:=zBn hB3 0;have f1:=zBn hB3 1;clear hW hb3 hb02 c0 c1;generalize zdS G j=G' at*;have hk:Kept [w.heap.size+1] w3 ((w3.setCell ⟨w.heap.size+1,0,none⟩ (.int .u64 G'.1)).setCell ⟨w.heap.size+1,1,none⟩ (.int .u64 G'.2)):=((Kept.refl _ _).setCell (p:=⟨w.heap.size+1,0,none⟩) (Or.inl (by simp)) _).setCell (p:=⟨w.heap.size+1,1,none⟩) (Or.inl (by simp)) _;have HK:Hid (Kept [w.heap.size+1] w3 ((w3.setCell ⟨w.heap.size+1,0,none⟩ (.int .u64 G'.1)).setCell ⟨w.heap.size+1,1,none⟩ (.int .u64 G'.2))):=hk;clear hk hB2 hRb2 hbl2;go_wp2_with fail;go_roundw
     case rel=>
      exact⟨j+1,by go_num,by omega,by rw[hE.out,zFg (zFg hB3 0 _) 1 _];rfl,⟨_,_,(HK.out.block _ (zBq hRb3) (by simp)).trans hRb3⟩,hbl3.trans (HK.out.below hbl3.size (by simp))⟩
     case measure=>simp[intOf];omega
  ·have hin':¬(j:Int)<(ops.length:Int):=(by omega);obtain rfl:j=ops.length:=(by omega);rw[List.take_length]at hB;have c0:wr.cell? ⟨w.heap.size+1,0,none⟩=some (.int .u64 (retG ops 0 (0,0)).1):=(by rw[zBk hB];rfl);have c1:wr.cell? ⟨w.heap.size+1,1,none⟩=some (.int .u64 (retG ops 0 (0,0)).2):=(by rw[zBk hB];rfl);have r0:wr.cell? ⟨w.heap.size,0,none⟩=some x:=(by rw[zBk hRb];rfl);have r1:wr.cell? ⟨w.heap.size,1,none⟩=some y:=(by rw[zBk hRb];rfl);have z0:=zBn hRb 0;have z1:=zBn hRb 1;have hk:Kept [w.heap.size] wr ((wr.setCell ⟨w.heap.size,0,none⟩ (.int .u64 (retG ops 0 (0,0)).1)).setCell ⟨w.heap.size,1,none⟩ (.int .u64 (retG ops 0 (0,0)).2)):=((Kept.refl _ _).setCell (p:=⟨w.heap.size,0,none⟩) (Or.inl (by simp)) _).setCell (p:=⟨w.heap.size,1,none⟩) (Or.inl (by simp)) _;have HK:Hid (Below w.heap.size w ((wr.setCell ⟨w.heap.size,0,none⟩ (.int .u64 (retG ops 0 (0,0)).1)).setCell ⟨w.heap.size,1,none⟩ (.int .u64 (retG ops 0 (0,0)).2))∧((wr.setCell ⟨w.heap.size,0,none⟩ (.int .u64 (retG ops 0 (0,0)).1)).setCell ⟨w.heap.size,1,none⟩ (.int .u64 (retG ops 0 (0,0)).2)).heap[w.heap.size]?=some (.cells #[.int .u64 (retG ops 0 (0,0)).1,.int .u64 (retG ops 0 (0,0)).2] 161 (0,0))):=
    ⟨hbl.trans (hk.below hbl.size (by simp)),by rw[zFg (zFg hRb 0 _) 1 _];rfl⟩
   clear hk hB hRb hbl;go_wp2;refine bodyPost_ret (zxLC _ _ w.heap.size _ _ (by simp) HK.out.2) rfl ⟨rfl,HK.out.1⟩
theorem Hid.mk' {p:Prop}(h:p):Hid p:=h
def vAg (k n:Int):Value:=.agg #[.int .i64 k,.int .i64 n]
theorem z3N (tm:Array Value)(W:World)(b:Nat)(v0 v1:Value)(h7:tm[2]?.getD undef=.pointer (some ⟨b,0,none⟩))(hb:W.heap[b]?=some (.cells #[v0,v1] 72 (0,0))):
 (results Tryz.f230 tm).run prog W=.ok (.agg #[v0,v1]) W∧(results Tryz.f231 tm).run prog W=.ok (.agg #[v0,v1]) W:=by
 have c0:W.cell? ⟨b,0,none⟩=some v0:=by rw[zBk hb];rfl
 have c1:W.cell? ⟨b,1,none⟩=some v1:=by rw[zBk hb];rfl
 constructor
 ·simp[results,results230,go_sem,h7,c0,c1]
 ·simp[results,results231,go_sem,h7,c0,c1]
theorem zl7 (n:Int)(w:World):
 Calls prog 230 #[.int .i64 n] w fun e w'=>e=.returned (vAg 1 n)∧Below w.heap.size w w':=by
 unfold vAg;go_enter func230,ntmps230;go_wp2;refine bodyPost_ret (z3N _ _ w.heap.size _ _ (by simp) (ziF _ _ _ rfl)).1 rfl ⟨rfl,zA _ _⟩
def tI (b:Bool):Int:=if b then 1 else 0
theorem zqS (b:Bool)(w:World):
 Calls prog 231 #[.bool b] w fun e w'=>e=.returned (vAg 2 (tI b))∧Below w.heap.size w w':=by
 unfold vAg tI;cases b
 all_goals
  go_enter func231,ntmps231;go_wp2;refine bodyPost_ret (z3N _ _ w.heap.size _ _ (by simp) (ziF _ _ _ rfl)).2 rfl ⟨rfl,zA _ _⟩
def zCI (st:Int)(o:OpV):Int×Int×Int:=
 if o.name=[114,101,97,100]then(st,1,st)else if o.name=[119,114,105,116,101]then(o.arg,0,0)else if o.name=[99,97,115]then(if st=o.exp then(o.arg,2,1)else(st,2,0))else(st,0,0)
theorem zAD (tm:Array Value)(W:World)(b:Nat)(s v0 v1:Value)(h6:tm[6]?.getD undef=s)(h7:tm[7]?.getD undef=.pointer (some ⟨b,0,none⟩))(hb:W.heap[b]?=some (.cells #[v0,v1] 72 (0,0))):
 (results Tryz.f228 tm).run prog W=.ok (.tuple #[s,.agg #[v0,v1]]) W:=by
 have c0:W.cell? ⟨b,0,none⟩=some v0:=by rw[zBk hb];rfl
 have c1:W.cell? ⟨b,1,none⟩=some v1:=by rw[zBk hb];rfl
 simp[results,results228,go_sem,h6,h7,c0,c1]
theorem z2E (w:World)(gb x y:Nat)(u v:Value):∀p:Addr,p.block≠gb→((w.setCell ⟨gb,x,none⟩ u).setCell ⟨gb,y,none⟩ v).cell? p=w.cell? p:=fun p hp=>
 World.cell?_of_block (w:=w) (by rw[zRA hp,zRA hp])
theorem vset {W:World}{b:Nat}{x y:Value}(h:W.heap[b]?=some (.cells #[x,y] 72 (0,0)))(v0 v1:Value):((W.setCell ⟨b,0,none⟩ v0).setCell ⟨b,1,none⟩ v1).heap[b]?=some (.cells #[v0,v1] 72 (0,0)):=by
 rw[zFg (zFg h 0 _) 1 _];rfl
theorem zh8 (st:Int)(o:OpV)(w:World):
 Calls prog 228 #[.agg #[],.int .i64 st,opAg o] w fun e w'=>e=.returned (.tuple #[.int .i64 (zCI st o).1,vAg (zCI st o).2.1 (zCI st o).2.2])∧Below w.heap.size w w':=by
 have hN:=fun W=>zl7 st W;have hT:=fun b W=>zqS b W;obtain⟨R,hR⟩:∃R,Hid (zCI st o=R):=⟨_,rfl⟩;rw[hR.out];unfold opAg vAg at*;obtain⟨W3,hW3,hbl,hOB,hVB⟩:∃W3,((w.alloc (.cells #[] 54)).alloc (.cells #[.int .i64 o.id,.int .i64 o.cl,.string ⟨o.name.toArray⟩,.string ⟨o.key.toArray⟩,.int .i64 o.arg,.int .i64 o.exp,.int .i64 o.call,.int .i64 o.ret,.int .i64 o.vk,.int .i64 o.vn] 74)).alloc (.cells #[.int .i64 0,.int .i64 0] 72)=W3∧Below w.heap.size w W3∧W3.heap[w.heap.size+1]?=some (.cells #[.int .i64 o.id,.int .i64 o.cl,.string ⟨o.name.toArray⟩,.string ⟨o.key.toArray⟩,.int .i64 o.arg,.int .i64 o.exp,.int .i64 o.call,.int .i64 o.ret,.int .i64 o.vk,.int .i64 o.vn] 74 (0,0))∧W3.heap[w.heap.size+1+1]?=some (.cells #[.int .i64 0,.int .i64 0] 72 (0,0)):=by
  refine⟨_,rfl,((zA _ _).alloc (by simp) _).alloc (by simp;omega) _,?_,ziF _ _ _ (by simp)⟩;rw[zD1 _ _ _ (by simp)];exact ziF _ _ _ (by simp)
 have a2:W3.cell? ⟨w.heap.size+1,2,none⟩=some (.string ⟨o.name.toArray⟩):=zBk hOB 2;have a4:W3.cell? ⟨w.heap.size+1,4,none⟩=some (.int .i64 o.arg):=zBk hOB 4;have a5:W3.cell? ⟨w.heap.size+1,5,none⟩=some (.int .i64 o.exp):=zBk hOB 5;have hlo:=zBq hOB;have hsz:=hbl.size;have e0:W3.cell? ⟨w.heap.size+1+1,0,none⟩=some (.int .i64 0):=zBk hVB 0;have e1:W3.cell? ⟨w.heap.size+1+1,1,none⟩=some (.int .i64 0):=zBk hVB 1;have z0:=zBn hVB 0;have z1:=zBn hVB 1;have hfin:∀(W W':World) (x y v0 v1:Value),Below w.heap.size w W→W.heap[w.heap.size+1+1]?=some (.cells #[x,y] 72 (0,0))→W'=(W.setCell ⟨w.heap.size+1+1,0,none⟩ v0).setCell ⟨w.heap.size+1+1,1,none⟩ v1→Below w.heap.size w W'∧W'.heap[w.heap.size+1+1]?=some (.cells #[v0,v1] 72 (0,0)):=by
  intro W W' x y v0 v1 h1 h2 h3;subst h3;exact⟨(h1.setCell (p:=⟨w.heap.size+1+1,0,none⟩) (by show w.heap.size≤w.heap.size+1+1;omega) _).setCell (p:=⟨w.heap.size+1+1,1,none⟩) (by show w.heap.size≤w.heap.size+1+1;omega) _,vset h2 _ _⟩
 have HF:=Hid.mk' hfin;have H0:=Hid.mk' (And.intro hVB hbl);clear hfin;go_enter func228,ntmps228;cases h1:(o.name==[114,101,97,100])with
 |true=>
   have hE:Hid (R=(st,1,st)):=(by rw[←hR.out];exact if_pos (by simpa using h1));clear hT;go_wp2_with fail;refine(hN _).mono ?_;rintro e w2 ⟨rfl,hb2⟩;have hB2:=(hb2.block _ (zBq hVB)).trans hVB;have hA2:=(hb2.cell (p:=⟨w.heap.size+1,4,none⟩) hlo).trans a4;have hbl2:=hbl.trans (hb2.mono hsz);have c0:w2.cell? ⟨w.heap.size+1+1,0,none⟩=some (.int .i64 0):=zBk hB2 0;have c1:w2.cell? ⟨w.heap.size+1+1,1,none⟩=some (.int .i64 0):=zBk hB2 1;have f0:=zBn hB2 0;have f1:=zBn hB2 1;have HX:=Hid.mk' (And.intro hB2 hbl2);clear hb2 hB2 hbl2;go_wp2;obtain⟨g1,g2⟩:=HF.out _ _ _ _ _ _ HX.out.2 HX.out.1 rfl;refine bodyPost_ret (zAD _ _ (w.heap.size+1+1) (.int .i64 st) _ _ (by simp) (by simp) g2) rfl ⟨by first|(rw[hE.out];done)|(rw[hE.out];rfl),g1⟩
 |false=>
   cases h2:(o.name==[119,114,105,116,101])with
   |true=>
     have hE:Hid (R=(o.arg,0,0)):=(by rw[←hR.out];unfold zCI;rw[if_neg (by simpa using h1),if_pos (by simpa using h2)];exact rfl);clear hT hN hR;go_wp2;obtain⟨g1,g2⟩:=HF.out _ _ _ _ _ _ H0.out.2 H0.out.1 rfl;refine bodyPost_ret (zAD _ _ (w.heap.size+1+1) (.int .i64 o.arg) _ _ (by simp) (by simp) g2) rfl ⟨by first|(rw[hE.out];done)|(rw[hE.out];rfl),g1⟩
   |false=>
     cases h3:(o.name==[99,97,115])with
     |true=>
       cases h4:(st==o.exp)with
       |true=>
         have hE:Hid (R=(o.arg,2,1)):=(by rw[←hR.out];unfold zCI;rw[if_neg (by simpa using h1),if_neg (by simpa using h2),if_pos (by simpa using h3),if_pos (by simpa using h4)];exact rfl);have hTt:=hT true;have hbd:Below W3.heap.size W3 W3.drew:=(zD).drew;have HBD:=Hid.mk' hbd;clear hN hT hR hbd;go_wp2_with fail;go_region_held3 (fun w'=>w'.cell? ⟨w.heap.size+1,4,none⟩=some (.int .i64 o.arg)) (first|exact hSE.out _ _|exact hA2|go_keep) (first
          |(go_at_call 231;refine(hTt _).mono ?_;rintro e w2 ⟨rfl,hb20⟩;have hb2:Below W3.heap.size W3 w2:=HBD.out.trans hb20;have hB2:=(hb2.block _ (zBq hVB)).trans hVB;have hA2:=(hb2.cell (p:=⟨w.heap.size+1,4,none⟩) hlo).trans a4;have hbl2:=hbl.trans (hb2.mono hsz);have c0:w2.cell? ⟨w.heap.size+1+1,0,none⟩=some (.int .i64 0):=zBk hB2 0;have c1:w2.cell? ⟨w.heap.size+1+1,1,none⟩=some (.int .i64 0):=zBk hB2 1;have f0:=zBn hB2 0;have f1:=zBn hB2 1;have hSE:Hid (∀(v0 v1:Value),((w2.setCell ⟨w.heap.size+1+1,0,none⟩ v0).setCell ⟨w.heap.size+1+1,1,none⟩ v1).cell? ⟨w.heap.size+1,4,none⟩=some (.int .i64 o.arg)):=fun v0 v1=>(z2E w2 (w.heap.size+1+1) 0 1 v0 v1 ⟨w.heap.size+1,4,none⟩ (by show w.heap.size+1≠w.heap.size+1+1;omega)).trans hA2;have HX:=Hid.mk' (And.intro hB2 hbl2)))
         all_goals
          go_wp2;obtain⟨g1,g2⟩:=HF.out _ _ _ _ _ _ HX.out.2 HX.out.1 rfl;refine bodyPost_ret (zAD _ _ (w.heap.size+1+1) (.int .i64 o.arg) _ _ (by simp) (by simp) g2) rfl ⟨by first|(rw[hE.out];done)|(rw[hE.out];rfl),g1⟩
       |false=>
         have hE:Hid (R=(st,2,0)):=(by rw[←hR.out];unfold zCI;rw[if_neg (by simpa using h1),if_neg (by simpa using h2),if_pos (by simpa using h3),if_neg (by simpa using h4)];exact rfl);clear hN;go_wp2_with fail;refine(hT false _).mono ?_;rintro e w2 ⟨rfl,hb2⟩;have hB2:=(hb2.block _ (zBq hVB)).trans hVB;have hA2:=(hb2.cell (p:=⟨w.heap.size+1,4,none⟩) hlo).trans a4;have hbl2:=hbl.trans (hb2.mono hsz);have c0:w2.cell? ⟨w.heap.size+1+1,0,none⟩=some (.int .i64 0):=zBk hB2 0;have c1:w2.cell? ⟨w.heap.size+1+1,1,none⟩=some (.int .i64 0):=zBk hB2 1;have f0:=zBn hB2 0;have f1:=zBn hB2 1;have HX:=Hid.mk' (And.intro hB2 hbl2);clear hb2 hB2 hbl2;go_wp2;obtain⟨g1,g2⟩:=HF.out _ _ _ _ _ _ HX.out.2 HX.out.1 rfl;refine bodyPost_ret (zAD _ _ (w.heap.size+1+1) (.int .i64 st) _ _ (by simp) (by simp) g2) rfl ⟨by first|(rw[hE.out];done)|(rw[hE.out];rfl),g1⟩
     |false=>
       have hE:Hid (R=(st,0,0)):=(by rw[←hR.out];unfold zCI;rw[if_neg (by simpa using h1),if_neg (by simpa using h2),if_neg (by simpa using h3)];exact rfl);clear hT hN hR;go_wp2;obtain⟨g1,g2⟩:=HF.out _ _ _ _ _ _ H0.out.2 H0.out.1 rfl;refine bodyPost_ret (zAD _ _ (w.heap.size+1+1) (.int .i64 st) _ _ (by simp) (by simp) g2) rfl ⟨by first|(rw[hE.out];done)|(rw[hE.out];rfl),g1⟩
def zqY (st:Bool)(o:OpV):Bool×Int×Int:=
 if o.name=[97,100,100]then(true,2,tI (!st))else if o.name=[114,101,109]then(false,2,tI st)else if o.name=[104,97,115]then(st,2,tI st)else(st,0,0)
theorem zUOg (tm:Array Value)(W:World)(b:Nat)(s v0 v1:Value)(h6:tm[6]?.getD undef=s)(h7:tm[7]?.getD undef=.pointer (some ⟨b,0,none⟩))(hb:W.heap[b]?=some (.cells #[v0,v1] 72 (0,0))):
 (results Tryz.f239 tm).run prog W=.ok (.tuple #[s,.agg #[v0,v1]]) W:=by
 have c0:W.cell? ⟨b,0,none⟩=some v0:=by rw[zBk hb];rfl
 have c1:W.cell? ⟨b,1,none⟩=some v1:=by rw[zBk hb];rfl
 simp[results,results239,go_sem,h6,h7,c0,c1]
theorem z2q (st:Bool)(o:OpV)(w:World):
 Calls prog 239 #[.agg #[],.bool st,opAg o] w fun e w'=>e=.returned (.tuple #[.bool (zqY st o).1,vAg (zqY st o).2.1 (zqY st o).2.2])∧Below w.heap.size w w':=by
 have hT:=fun b W=>zqS b W;obtain⟨R,hR⟩:∃R,Hid (zqY st o=R):=⟨_,rfl⟩;rw[hR.out];unfold opAg vAg at*;obtain⟨W3,hW3,hbl,hOB,hVB⟩:∃W3,((w.alloc (.cells #[] 64)).alloc (.cells #[.int .i64 o.id,.int .i64 o.cl,.string ⟨o.name.toArray⟩,.string ⟨o.key.toArray⟩,.int .i64 o.arg,.int .i64 o.exp,.int .i64 o.call,.int .i64 o.ret,.int .i64 o.vk,.int .i64 o.vn] 74)).alloc (.cells #[.int .i64 0,.int .i64 0] 72)=W3∧Below w.heap.size w W3∧W3.heap[w.heap.size+1]?=some (.cells #[.int .i64 o.id,.int .i64 o.cl,.string ⟨o.name.toArray⟩,.string ⟨o.key.toArray⟩,.int .i64 o.arg,.int .i64 o.exp,.int .i64 o.call,.int .i64 o.ret,.int .i64 o.vk,.int .i64 o.vn] 74 (0,0))∧W3.heap[w.heap.size+1+1]?=some (.cells #[.int .i64 0,.int .i64 0] 72 (0,0)):=by
  refine⟨_,rfl,((zA _ _).alloc (by simp) _).alloc (by simp;omega) _,?_,ziF _ _ _ (by simp)⟩;rw[zD1 _ _ _ (by simp)];exact ziF _ _ _ (by simp)
 have a2:W3.cell? ⟨w.heap.size+1,2,none⟩=some (.string ⟨o.name.toArray⟩):=zBk hOB 2;have hsz:=hbl.size;have e0:W3.cell? ⟨w.heap.size+1+1,0,none⟩=some (.int .i64 0):=zBk hVB 0;have e1:W3.cell? ⟨w.heap.size+1+1,1,none⟩=some (.int .i64 0):=zBk hVB 1;have z0:=zBn hVB 0;have z1:=zBn hVB 1;have hfin:∀(W W':World) (x y v0 v1:Value),Below w.heap.size w W→W.heap[w.heap.size+1+1]?=some (.cells #[x,y] 72 (0,0))→W'=(W.setCell ⟨w.heap.size+1+1,0,none⟩ v0).setCell ⟨w.heap.size+1+1,1,none⟩ v1→Below w.heap.size w W'∧W'.heap[w.heap.size+1+1]?=some (.cells #[v0,v1] 72 (0,0)):=by
  intro W W' x y v0 v1 h1 h2 h3;subst h3;exact⟨(h1.setCell (p:=⟨w.heap.size+1+1,0,none⟩) (by show w.heap.size≤w.heap.size+1+1;omega) _).setCell (p:=⟨w.heap.size+1+1,1,none⟩) (by show w.heap.size≤w.heap.size+1+1;omega) _,vset h2 _ _⟩
 have HF:=Hid.mk' hfin;have H0:=Hid.mk' (And.intro hVB hbl);clear hfin;go_enter func239,ntmps239;cases h1:(o.name==[97,100,100])with
 |true=>
   have hE:Hid (R=(true,2,tI (!st))):=(by rw[←hR.out];exact if_pos (by simpa using h1));go_wp2_with fail;refine(hT (!st) _).mono ?_;rintro e w2 ⟨rfl,hb2⟩;have hB2:=(hb2.block _ (zBq hVB)).trans hVB;have hbl2:=hbl.trans (hb2.mono hsz);have c0:w2.cell? ⟨w.heap.size+1+1,0,none⟩=some (.int .i64 0):=zBk hB2 0;have c1:w2.cell? ⟨w.heap.size+1+1,1,none⟩=some (.int .i64 0):=zBk hB2 1;have f0:=zBn hB2 0;have f1:=zBn hB2 1;have HX:=Hid.mk' (And.intro hB2 hbl2);clear hb2 hB2 hbl2;go_wp2;obtain⟨g1,g2⟩:=HF.out _ _ _ _ _ _ HX.out.2 HX.out.1 rfl;refine bodyPost_ret (zUOg _ _ (w.heap.size+1+1) (.bool true) _ _ (by simp) (by simp) g2) rfl ⟨by first|(rw[hE.out];done)|(rw[hE.out];rfl),g1⟩
 |false=>
   cases h2:(o.name==[114,101,109])with
   |true=>
     have hE:Hid (R=(false,2,tI st)):=(by rw[←hR.out];unfold zqY;rw[if_neg (by simpa using h1),if_pos (by simpa using h2)];exact rfl);go_wp2_with fail;refine(hT st _).mono ?_;rintro e w2 ⟨rfl,hb2⟩;have hB2:=(hb2.block _ (zBq hVB)).trans hVB;have hbl2:=hbl.trans (hb2.mono hsz);have c0:w2.cell? ⟨w.heap.size+1+1,0,none⟩=some (.int .i64 0):=zBk hB2 0;have c1:w2.cell? ⟨w.heap.size+1+1,1,none⟩=some (.int .i64 0):=zBk hB2 1;have f0:=zBn hB2 0;have f1:=zBn hB2 1;have HX:=Hid.mk' (And.intro hB2 hbl2);clear hb2 hB2 hbl2;go_wp2;obtain⟨g1,g2⟩:=HF.out _ _ _ _ _ _ HX.out.2 HX.out.1 rfl;refine bodyPost_ret (zUOg _ _ (w.heap.size+1+1) (.bool false) _ _ (by simp) (by simp) g2) rfl ⟨by first|(rw[hE.out];done)|(rw[hE.out];rfl),g1⟩
   |false=>
     cases h3:(o.name==[104,97,115])with
     |true=>
       have hE:Hid (R=(st,2,tI st)):=(by rw[←hR.out];unfold zqY;rw[if_neg (by simpa using h1),if_neg (by simpa using h2),if_pos (by simpa using h3)];exact rfl);go_wp2_with fail;refine(hT st _).mono ?_;rintro e w2 ⟨rfl,hb2⟩;have hB2:=(hb2.block _ (zBq hVB)).trans hVB;have hbl2:=hbl.trans (hb2.mono hsz);have c0:w2.cell? ⟨w.heap.size+1+1,0,none⟩=some (.int .i64 0):=zBk hB2 0;have c1:w2.cell? ⟨w.heap.size+1+1,1,none⟩=some (.int .i64 0):=zBk hB2 1;have f0:=zBn hB2 0;have f1:=zBn hB2 1;have HX:=Hid.mk' (And.intro hB2 hbl2);clear hb2 hB2 hbl2;go_wp2;obtain⟨g1,g2⟩:=HF.out _ _ _ _ _ _ HX.out.2 HX.out.1 rfl;refine bodyPost_ret (zUOg _ _ (w.heap.size+1+1) (.bool st) _ _ (by simp) (by simp) g2) rfl ⟨by first|(rw[hE.out];done)|(rw[hE.out];rfl),g1⟩
     |false=>
       have hE:Hid (R=(st,0,0)):=(by rw[←hR.out];unfold zqY;rw[if_neg (by simpa using h1),if_neg (by simpa using h2),if_neg (by simpa using h3)];exact rfl);clear hT hR;go_wp2;obtain⟨g1,g2⟩:=HF.out _ _ _ _ _ _ H0.out.2 H0.out.1 rfl;refine bodyPost_ret (zUOg _ _ (w.heap.size+1+1) (.bool st) _ _ (by simp) (by simp) g2) rfl ⟨by first|(rw[hE.out];done)|(rw[hE.out];rfl),g1⟩
abbrev Ph:=Bool×Int
def stDo (st:Ph)(o:OpV):Ph×Int×Int:=
 if o.name=[103,101,116]then(if st.1=true then(st,1,st.2)else(st,0,0))else if o.name=[112,117,116]then((true,o.arg),0,0)else if o.name=[100,101,108]then((false,0),2,tI st.1)else(st,0,0)
theorem zbl (tm:Array Value)(W:World)(b3 b4:Nat)(a b c d:Value)(h6:tm[6]?.getD undef=.pointer (some ⟨b3,0,none⟩))(h7:tm[7]?.getD undef=.pointer (some ⟨b4,0,none⟩))(hp:W.heap[b3]?=some (.cells #[a,b] 59 (0,0)))(hb:W.heap[b4]?=some (.cells #[c,d] 72 (0,0))):
 (results Tryz.f233 tm).run prog W=.ok (.tuple #[.agg #[a,b],.agg #[c,d]]) W∧(results Tryz.f241 tm).run prog W=.ok (.tuple #[.agg #[a,b],.agg #[c,d]]) W:=by
 have p0:W.cell? ⟨b3,0,none⟩=some a:=by rw[zBk hp];rfl
 have p1:W.cell? ⟨b3,1,none⟩=some b:=by rw[zBk hp];rfl
 have c0:W.cell? ⟨b4,0,none⟩=some c:=by rw[zBk hb];rfl
 have c1:W.cell? ⟨b4,1,none⟩=some d:=by rw[zBk hb];rfl
 constructor
 ·simp[results,results233,go_sem,h6,h7,p0,p1,c0,c1]
 ·simp[results,results241,go_sem,h6,h7,p0,p1,c0,c1]
theorem four {w W:World} {b3 b4:Nat} {x y x' y':Value} (h:Below w.heap.size w W) (h3:w.heap.size≤b3) (h4:w.heap.size≤b4) (hne:b3≠b4) (hp:W.heap[b3]?=some (.cells #[x,y] 59 (0,0))) (hb:W.heap[b4]?=some (.cells #[x',y'] 72 (0,0))) (a b c d:Value) (W':World)
 (hW:W'=(((W.setCell ⟨b3,0,none⟩ a).setCell ⟨b3,1,none⟩ b).setCell ⟨b4,0,none⟩ c).setCell ⟨b4,1,none⟩ d):Below w.heap.size w W'∧W'.heap[b3]?=some (.cells #[a,b] 59 (0,0))∧W'.heap[b4]?=some (.cells #[c,d] 72 (0,0)):=by
 subst hW;refine⟨(((h.setCell (p:=⟨b3,0,none⟩) h3 _).setCell (p:=⟨b3,1,none⟩) h3 _).setCell (p:=⟨b4,0,none⟩) h4 _).setCell (p:=⟨b4,1,none⟩) h4 _,?_,?_⟩
 ·rw[zRA hne,zRA hne,zFg (zFg hp 0 _) 1 _];rfl
 ·rw[zFg (zFg (by rw[zRA hne.symm,zRA hne.symm];exact hb) 0 _) 1 _];rfl
theorem zYu (th:Bool)(n:Int)(o:OpV)(w:World):
 Calls prog 233 #[.agg #[],.agg #[.bool th,.int .i64 n],opAg o] w fun e w'=>e=.returned (.tuple #[.agg #[.bool (stDo (th,n) o).1.1,.int .i64 (stDo (th,n) o).1.2],vAg (stDo (th,n) o).2.1 (stDo (th,n) o).2.2])∧Below w.heap.size w w':=by
 have hN:=fun W=>zl7 n W;have hT:=fun W=>zqS th W;obtain⟨R,hR⟩:∃R,Hid (stDo (th,n) o=R):=⟨_,rfl⟩;rw[hR.out];unfold opAg vAg at*;obtain⟨W5,hW5,hbl,hSB,hOB,hPB,hVB⟩:∃W5,((((w.alloc (.cells #[] 60)).alloc (.cells #[.bool th,.int .i64 n] 59)).alloc (.cells #[.int .i64 o.id,.int .i64 o.cl,.string ⟨o.name.toArray⟩,.string ⟨o.key.toArray⟩,.int .i64 o.arg,.int .i64 o.exp,.int .i64 o.call,.int .i64 o.ret,.int .i64 o.vk,.int .i64 o.vn] 74)).alloc (.cells #[.bool false,.int .i64 0] 59)).alloc (.cells #[.int .i64 0,.int .i64 0] 72)=W5∧Below w.heap.size w W5∧W5.heap[w.heap.size+1]?=some (.cells #[.bool th,.int .i64 n] 59 (0,0))∧W5.heap[w.heap.size+1+1]?=some (.cells #[.int .i64 o.id,.int .i64 o.cl,.string ⟨o.name.toArray⟩,.string ⟨o.key.toArray⟩,.int .i64 o.arg,.int .i64 o.exp,.int .i64 o.call,.int .i64 o.ret,.int .i64 o.vk,.int .i64 o.vn] 74 (0,0))∧W5.heap[w.heap.size+1+1+1]?=some (.cells #[.bool false,.int .i64 0] 59 (0,0))∧W5.heap[w.heap.size+1+1+1+1]?=some (.cells #[.int .i64 0,.int .i64 0] 72 (0,0)):=by
  refine⟨_,rfl,((((zA _ _).alloc (by simp) _).alloc (by first|(simp;done)|(simp;omega)) _).alloc (by first|(simp;done)|(simp;omega)) _).alloc (by first|(simp;done)|(simp;omega)) _,?_,?_,?_,ziF _ _ _ (by simp)⟩
  ·rw[zD1 _ _ _ (by first|(simp;done)|(simp;omega)),zD1 _ _ _ (by first|(simp;done)|(simp;omega)),zD1 _ _ _ (by simp)];exact ziF _ _ _ (by simp)
  ·rw[zD1 _ _ _ (by first|(simp;done)|(simp;omega)),zD1 _ _ _ (by simp)];exact ziF _ _ _ (by simp)
  ·rw[zD1 _ _ _ (by simp)];exact ziF _ _ _ (by simp)
 have s0:W5.cell? ⟨w.heap.size+1,0,none⟩=some (.bool th):=zBk hSB 0;have s1:W5.cell? ⟨w.heap.size+1,1,none⟩=some (.int .i64 n):=zBk hSB 1;have a1:W5.cell? ⟨w.heap.size+1+1,1,none⟩=some (.int .i64 o.cl):=zBk hOB 1;have a2:W5.cell? ⟨w.heap.size+1+1,2,none⟩=some (.string ⟨o.name.toArray⟩):=zBk hOB 2;have a4:W5.cell? ⟨w.heap.size+1+1,4,none⟩=some (.int .i64 o.arg):=zBk hOB 4;have hsz:=hbl.size;have p0:W5.cell? ⟨w.heap.size+1+1+1,0,none⟩=some (.bool false):=zBk hPB 0;have p1:W5.cell? ⟨w.heap.size+1+1+1,1,none⟩=some (.int .i64 0):=zBk hPB 1;have x0:=zBn hPB 0;have x1:=zBn hPB 1;have e0:W5.cell? ⟨w.heap.size+1+1+1+1,0,none⟩=some (.int .i64 0):=zBk hVB 0;have e1:W5.cell? ⟨w.heap.size+1+1+1+1,1,none⟩=some (.int .i64 0):=zBk hVB 1;have z0:=zBn hVB 0;have z1:=zBn hVB 1;have H0:=Hid.mk' (And.intro hbl (And.intro hPB (And.intro hVB hSB)));clear hbl hPB hVB hSB hOB;go_enter func233,ntmps233;cases h1:(o.name==[103,101,116])with
 |true=>
   cases th with
   |true=>
     have hE:Hid (R=((true,n),1,n)):=(by rw[←hR.out];unfold stDo;rw[if_pos (by simpa using h1),if_pos rfl];exact rfl);clear hT hR;have HBD:=Hid.mk' (show Below W5.heap.size W5 W5.drew from(zD).drew);go_wp2_with fail;go_region_held3 (fun w'=>w'.cell? ⟨w.heap.size+1,0,none⟩=some (.bool true)∧w'.cell? ⟨w.heap.size+1,1,none⟩=some (.int .i64 n)) (first|(with_reducible exact hSE.out _ _ _ _)|(with_reducible exact hSP.out _ _)|(with_reducible exact hS3)|go_keep) (first
      |(go_at_call 230;refine(hN _).mono ?_;rintro e w2 ⟨rfl,hb20⟩;have hb2:Below W5.heap.size W5 w2:=HBD.out.trans hb20;have hP2:=(hb2.block _ (zBq H0.out.2.1)).trans H0.out.2.1;have hV2:=(hb2.block _ (zBq H0.out.2.2.1)).trans H0.out.2.2.1;have hS2:=(hb2.block _ (zBq H0.out.2.2.2)).trans H0.out.2.2.2;have hbl2:=H0.out.1.trans (hb2.mono hsz);have q0:w2.cell? ⟨w.heap.size+1+1+1,0,none⟩=some (.bool false):=zBk hP2 0;have q1:w2.cell? ⟨w.heap.size+1+1+1,1,none⟩=some (.int .i64 0):=zBk hP2 1;have y0:=zBn hP2 0;have y1:=zBn hP2 1;have c0:w2.cell? ⟨w.heap.size+1+1+1+1,0,none⟩=some (.int .i64 0):=zBk hV2 0;have c1:w2.cell? ⟨w.heap.size+1+1+1+1,1,none⟩=some (.int .i64 0):=zBk hV2 1;have f0:=zBn hV2 0;have f1:=zBn hV2 1;have HX:=Hid.mk' (And.intro hbl2 (And.intro hP2 hV2));have hS3:w2.cell? ⟨w.heap.size+1,0,none⟩=some (.bool true)∧w2.cell? ⟨w.heap.size+1,1,none⟩=some (.int .i64 n):=⟨zBk hS2 0,zBk hS2 1⟩;have hSP:Hid (∀a b:Value,((w2.setCell ⟨w.heap.size+1+1+1,0,none⟩ a).setCell ⟨w.heap.size+1+1+1,1,none⟩ b).cell? ⟨w.heap.size+1,0,none⟩=some (.bool true)∧((w2.setCell ⟨w.heap.size+1+1+1,0,none⟩ a).setCell ⟨w.heap.size+1+1+1,1,none⟩ b).cell? ⟨w.heap.size+1,1,none⟩=some (.int .i64 n)):=fun a b=>⟨(z2E _ _ _ _ _ _ _ (by show w.heap.size+1≠w.heap.size+1+1+1;omega)).trans hS3.1,(z2E _ _ _ _ _ _ _ (by show w.heap.size+1≠w.heap.size+1+1+1;omega)).trans hS3.2⟩;have hSE:Hid (∀a b c d:Value,((((w2.setCell ⟨w.heap.size+1+1+1,0,none⟩ a).setCell ⟨w.heap.size+1+1+1,1,none⟩ b).setCell ⟨w.heap.size+1+1+1+1,0,none⟩ c).setCell ⟨w.heap.size+1+1+1+1,1,none⟩ d).cell? ⟨w.heap.size+1,0,none⟩=some (.bool true)∧((((w2.setCell ⟨w.heap.size+1+1+1,0,none⟩ a).setCell ⟨w.heap.size+1+1+1,1,none⟩ b).setCell ⟨w.heap.size+1+1+1+1,0,none⟩ c).setCell ⟨w.heap.size+1+1+1+1,1,none⟩ d).cell? ⟨w.heap.size+1,1,none⟩=some (.int .i64 n)):=fun a b c d=>⟨(z2E _ _ _ _ _ _ _ (by show w.heap.size+1≠w.heap.size+1+1+1+1;omega)).trans (hSP.out a b).1,(z2E _ _ _ _ _ _ _ (by show w.heap.size+1≠w.heap.size+1+1+1+1;omega)).trans (hSP.out a b).2⟩))
     all_goals
      go_wp2;obtain⟨g1,g2,g3⟩:=four HX.out.1 (by omega) (by omega) (by omega) HX.out.2.1 HX.out.2.2 _ _ _ _ _ rfl;refine bodyPost_ret (zbl _ _ (w.heap.size+1+1+1) (w.heap.size+1+1+1+1) _ _ _ _ (by simp) (by simp) g2 g3).1 rfl ⟨by first|(rw[hE.out];done)|(rw[hE.out];rfl),g1⟩
   |false=>
     have hE:Hid (R=((false,n),0,0)):=(by rw[←hR.out];unfold stDo;rw[if_pos (by simpa using h1),if_neg (by simp)];exact rfl);clear hT hN hR;go_wp2;obtain⟨g1,g2,g3⟩:=four H0.out.1 (by omega) (by omega) (by omega) H0.out.2.1 H0.out.2.2.1 _ _ _ _ _ rfl;refine bodyPost_ret (zbl _ _ (w.heap.size+1+1+1) (w.heap.size+1+1+1+1) _ _ _ _ (by simp) (by simp) g2 g3).1 rfl ⟨by first|(rw[hE.out];done)|(rw[hE.out];rfl),g1⟩
 |false=>
   cases h2:(o.name==[112,117,116])with
   |true=>
     have hE:Hid (R=((true,o.arg),0,0)):=(by rw[←hR.out];unfold stDo;rw[if_neg (by simpa using h1),if_pos (by simpa using h2)];exact rfl);clear hT hN hR;go_wp2;obtain⟨g1,g2,g3⟩:=four H0.out.1 (by omega) (by omega) (by omega) H0.out.2.1 H0.out.2.2.1 _ _ _ _ _ rfl;refine bodyPost_ret (zbl _ _ (w.heap.size+1+1+1) (w.heap.size+1+1+1+1) _ _ _ _ (by simp) (by simp) g2 g3).1 rfl ⟨by first|(rw[hE.out];done)|(rw[hE.out];rfl),g1⟩
   |false=>
     cases h3:(o.name==[100,101,108])with
     |true=>
       have hE:Hid (R=((false,0),2,tI th)):=(by rw[←hR.out];unfold stDo;rw[if_neg (by simpa using h1),if_neg (by simpa using h2),if_pos (by simpa using h3)];exact rfl);clear hN hR;go_wp2_with fail;refine(hT _).mono ?_;rintro e w2 ⟨rfl,hb2⟩;have hP2:=(hb2.block _ (zBq H0.out.2.1)).trans H0.out.2.1;have hV2:=(hb2.block _ (zBq H0.out.2.2.1)).trans H0.out.2.2.1;have hS2:=(hb2.block _ (zBq H0.out.2.2.2)).trans H0.out.2.2.2;have hbl2:=H0.out.1.trans (hb2.mono hsz);have q0:w2.cell? ⟨w.heap.size+1+1+1,0,none⟩=some (.bool false):=zBk hP2 0;have q1:w2.cell? ⟨w.heap.size+1+1+1,1,none⟩=some (.int .i64 0):=zBk hP2 1;have y0:=zBn hP2 0;have y1:=zBn hP2 1;have c0:w2.cell? ⟨w.heap.size+1+1+1+1,0,none⟩=some (.int .i64 0):=zBk hV2 0;have c1:w2.cell? ⟨w.heap.size+1+1+1+1,1,none⟩=some (.int .i64 0):=zBk hV2 1;have f0:=zBn hV2 0;have f1:=zBn hV2 1;have HX:=Hid.mk' (And.intro hbl2 (And.intro hP2 hV2));clear hT hb2 hP2 hV2 hS2 hbl2;go_wp2;obtain⟨g1,g2,g3⟩:=four HX.out.1 (by omega) (by omega) (by omega) HX.out.2.1 HX.out.2.2 _ _ _ _ _ rfl;refine bodyPost_ret (zbl _ _ (w.heap.size+1+1+1) (w.heap.size+1+1+1+1) _ _ _ _ (by simp) (by simp) g2 g3).1 rfl ⟨by first|(rw[hE.out];done)|(rw[hE.out];rfl),g1⟩
     |false=>
       have hE:Hid (R=((th,n),0,0)):=(by rw[←hR.out];unfold stDo;rw[if_neg (by simpa using h1),if_neg (by simpa using h2),if_neg (by simpa using h3)];exact rfl);clear hT hN hR;go_wp2;obtain⟨g1,g2,g3⟩:=four H0.out.1 (by omega) (by omega) (by omega) H0.out.2.1 H0.out.2.2.1 _ _ _ _ _ rfl;refine bodyPost_ret (zbl _ _ (w.heap.size+1+1+1) (w.heap.size+1+1+1+1) _ _ _ _ (by simp) (by simp) g2 g3).1 rfl ⟨by first|(rw[hE.out];done)|(rw[hE.out];rfl),g1⟩
def lkDo (st:Ph)(o:OpV):Ph×Int×Int:=
 if o.name=[97,99,113]then(if st.1=false then((true,o.cl),2,1)else(st,2,0))else if o.name=[114,101,108]then(if st=(true,o.cl)then((false,0),2,1)else(st,2,0))else(st,0,0)
theorem zV7 (th:Bool)(n:Int)(o:OpV)(w:World):
 Calls Tryz.prog 241 #[.agg #[],.agg #[.bool th,.int .i64 n],opAg o] w fun e w'=>e=.returned (.tuple #[.agg #[.bool (lkDo (th,n) o).1.1,.int .i64 (lkDo (th,n) o).1.2],vAg (lkDo (th,n) o).2.1 (lkDo (th,n) o).2.2])∧Below w.heap.size w w':=by
 have hT:=fun b W=>zqS b W;obtain⟨R,hR⟩:∃R,Hid (lkDo (th,n) o=R):=⟨_,rfl⟩;rw[hR.out];unfold opAg vAg at*;obtain⟨W5,hW5,hbl,hSB,hOB,hPB,hVB,hCB⟩:∃W5,(((((w.alloc (.cells #[] 66)).alloc (.cells #[.bool th,.int .i64 n] 59)).alloc (.cells #[.int .i64 o.id,.int .i64 o.cl,.string ⟨o.name.toArray⟩,.string ⟨o.key.toArray⟩,.int .i64 o.arg,.int .i64 o.exp,.int .i64 o.call,.int .i64 o.ret,.int .i64 o.vk,.int .i64 o.vn] 74)).alloc (.cells #[.bool false,.int .i64 0] 59)).alloc (.cells #[.int .i64 0,.int .i64 0] 72)).alloc (.cells #[.bool true,.int .i64 o.cl] 59)=W5∧Below w.heap.size w W5∧W5.heap[w.heap.size+1]?=some (.cells #[.bool th,.int .i64 n] 59 (0,0))∧W5.heap[w.heap.size+1+1]?=some (.cells #[.int .i64 o.id,.int .i64 o.cl,.string ⟨o.name.toArray⟩,.string ⟨o.key.toArray⟩,.int .i64 o.arg,.int .i64 o.exp,.int .i64 o.call,.int .i64 o.ret,.int .i64 o.vk,.int .i64 o.vn] 74 (0,0))∧W5.heap[w.heap.size+1+1+1]?=some (.cells #[.bool false,.int .i64 0] 59 (0,0))∧W5.heap[w.heap.size+1+1+1+1]?=some (.cells #[.int .i64 0,.int .i64 0] 72 (0,0))∧W5.heap[w.heap.size+1+1+1+1+1]?=some (.cells #[.bool true,.int .i64 o.cl] 59 (0,0)):=by
  refine⟨_,rfl,(((((zA _ _).alloc (by simp) _).alloc (by first|(simp;done)|(simp;omega)) _).alloc (by first|(simp;done)|(simp;omega)) _).alloc (by first|(simp;done)|(simp;omega)) _).alloc (by first|(simp;done)|(simp;omega)) _,?_,?_,?_,?_,ziF _ _ _ (by simp)⟩
  ·rw[zD1 _ _ _ (by first|(simp;done)|(simp;omega)),zD1 _ _ _ (by first|(simp;done)|(simp;omega)),zD1 _ _ _ (by first|(simp;done)|(simp;omega)),zD1 _ _ _ (by simp)];exact ziF _ _ _ (by simp)
  ·rw[zD1 _ _ _ (by first|(simp;done)|(simp;omega)),zD1 _ _ _ (by first|(simp;done)|(simp;omega)),zD1 _ _ _ (by simp)];exact ziF _ _ _ (by simp)
  ·rw[zD1 _ _ _ (by first|(simp;done)|(simp;omega)),zD1 _ _ _ (by simp)];exact ziF _ _ _ (by simp)
  ·rw[zD1 _ _ _ (by simp)];exact ziF _ _ _ (by simp)
 have s0:W5.cell? ⟨w.heap.size+1,0,none⟩=some (.bool th):=zBk hSB 0;have s1:W5.cell? ⟨w.heap.size+1,1,none⟩=some (.int .i64 n):=zBk hSB 1;have k0:W5.cell? ⟨w.heap.size+1+1+1+1+1,0,none⟩=some (.bool true):=zBk hCB 0;have k1:W5.cell? ⟨w.heap.size+1+1+1+1+1,1,none⟩=some (.int .i64 o.cl):=zBk hCB 1;have a2:W5.cell? ⟨w.heap.size+1+1,2,none⟩=some (.string ⟨o.name.toArray⟩):=zBk hOB 2;have hsz:=hbl.size;have p0:W5.cell? ⟨w.heap.size+1+1+1,0,none⟩=some (.bool false):=zBk hPB 0;have p1:W5.cell? ⟨w.heap.size+1+1+1,1,none⟩=some (.int .i64 0):=zBk hPB 1;have x0:=zBn hPB 0;have x1:=zBn hPB 1;have e0:W5.cell? ⟨w.heap.size+1+1+1+1,0,none⟩=some (.int .i64 0):=zBk hVB 0;have e1:W5.cell? ⟨w.heap.size+1+1+1+1,1,none⟩=some (.int .i64 0):=zBk hVB 1;have z0:=zBn hVB 0;have z1:=zBn hVB 1;have H0:=Hid.mk' (And.intro hbl (And.intro hPB (And.intro hVB (And.intro hSB hCB))));have HBD:=Hid.mk' (show Below W5.heap.size W5 W5.drew from(zD).drew);have KEY:Hid (∀(w2:World) (bk:Nat) (x y:Value),Below W5.heap.size W5 w2→W5.heap[bk]?=some (.cells #[x,y] 59 (0,0))→bk≠w.heap.size+1+1+1→bk≠w.heap.size+1+1+1+1→
  w2.cell? ⟨w.heap.size+1+1+1,0,none⟩=some (.bool false)∧w2.cell? ⟨w.heap.size+1+1+1,1,none⟩=some (.int .i64 0)∧w2.frozen? ⟨w.heap.size+1+1+1,0,none⟩=false∧w2.frozen? ⟨w.heap.size+1+1+1,1,none⟩=false∧w2.cell? ⟨w.heap.size+1+1+1+1,0,none⟩=some (.int .i64 0)∧w2.cell? ⟨w.heap.size+1+1+1+1,1,none⟩=some (.int .i64 0)∧w2.frozen? ⟨w.heap.size+1+1+1+1,0,none⟩=false∧w2.frozen? ⟨w.heap.size+1+1+1+1,1,none⟩=false∧
  Hid (Below w.heap.size w w2∧w2.heap[w.heap.size+1+1+1]?=some (.cells #[.bool false,.int .i64 0] 59 (0,0))∧w2.heap[w.heap.size+1+1+1+1]?=some (.cells #[.int .i64 0,.int .i64 0] 72 (0,0)))∧
  (w2.cell? ⟨bk,0,none⟩=some x∧w2.cell? ⟨bk,1,none⟩=some y)∧Hid (∀a b:Value,((w2.setCell ⟨w.heap.size+1+1+1,0,none⟩ a).setCell ⟨w.heap.size+1+1+1,1,none⟩ b).cell? ⟨bk,0,none⟩=some x∧((w2.setCell ⟨w.heap.size+1+1+1,0,none⟩ a).setCell ⟨w.heap.size+1+1+1,1,none⟩ b).cell? ⟨bk,1,none⟩=some y)∧
  Hid (∀a b c d:Value,((((w2.setCell ⟨w.heap.size+1+1+1,0,none⟩ a).setCell ⟨w.heap.size+1+1+1,1,none⟩ b).setCell ⟨w.heap.size+1+1+1+1,0,none⟩ c).setCell ⟨w.heap.size+1+1+1+1,1,none⟩ d).cell? ⟨bk,0,none⟩=some x∧((((w2.setCell ⟨w.heap.size+1+1+1,0,none⟩ a).setCell ⟨w.heap.size+1+1+1,1,none⟩ b).setCell ⟨w.heap.size+1+1+1+1,0,none⟩ c).setCell ⟨w.heap.size+1+1+1+1,1,none⟩ d).cell? ⟨bk,1,none⟩=some y)):=by
  intro w2 bk x y hb2 hB n3 n4;have hP2:=(hb2.block _ (zBq hPB)).trans hPB;have hV2:=(hb2.block _ (zBq hVB)).trans hVB;have hC2:=(hb2.block _ (zBq hB)).trans hB;have hS3:w2.cell? ⟨bk,0,none⟩=some x∧w2.cell? ⟨bk,1,none⟩=some y:=⟨zBk hC2 0,zBk hC2 1⟩;have hSP:∀a b:Value,((w2.setCell ⟨w.heap.size+1+1+1,0,none⟩ a).setCell ⟨w.heap.size+1+1+1,1,none⟩ b).cell? ⟨bk,0,none⟩=some x∧((w2.setCell ⟨w.heap.size+1+1+1,0,none⟩ a).setCell ⟨w.heap.size+1+1+1,1,none⟩ b).cell? ⟨bk,1,none⟩=some y:=fun a b=>⟨(z2E _ _ _ _ _ _ _ n3).trans hS3.1,(z2E _ _ _ _ _ _ _ n3).trans hS3.2⟩;exact⟨zBk hP2 0,zBk hP2 1,zBn hP2 0,zBn hP2 1,zBk hV2 0,zBk hV2 1,zBn hV2 0,zBn hV2 1,⟨hbl.trans (hb2.mono hsz),hP2,hV2⟩,hS3,hSP,fun a b c d=>⟨(z2E _ _ _ _ _ _ _ n4).trans (hSP a b).1,(z2E _ _ _ _ _ _ _ n4).trans (hSP a b).2⟩⟩
 clear hbl hPB hVB hSB hOB hCB;go_enter Tryz.func241,Tryz.ntmps241;cases h1:(o.name==[97,99,113])with
 |true=>
   cases th with
   |false=>
     have hE:Hid (R=((true,o.cl),2,1)):=(by rw[←hR.out];unfold lkDo;rw[if_pos (by simpa using h1),if_pos rfl];exact rfl);clear hR;go_wp2_with fail;go_region_held3 (fun w'=>w'.cell? ⟨w.heap.size+1+1+1+1+1,0,none⟩=some (.bool true)∧w'.cell? ⟨w.heap.size+1+1+1+1+1,1,none⟩=some (.int .i64 o.cl)) (first|(with_reducible exact hSE.out _ _ _ _)|(with_reducible exact hSP.out _ _)|(with_reducible exact hS3)|go_keep) (first
      | (go_at_call 231;refine(hT true _).mono ?_;rintro e w2 ⟨rfl,hb20⟩;obtain⟨q0,q1,y0,y1,c0,c1,f0,f1,HX,hS3,hSP,hSE⟩:=KEY.out w2 _ _ _ (HBD.out.trans hb20) H0.out.2.2.2.2 (by omega) (by omega)))
     all_goals
      go_wp2;obtain⟨g1,g2,g3⟩:=four HX.out.1 (by omega) (by omega) (by omega) HX.out.2.1 HX.out.2.2 _ _ _ _ _ rfl;refine bodyPost_ret (zbl _ _ (w.heap.size+1+1+1) (w.heap.size+1+1+1+1) _ _ _ _ (by simp) (by simp) g2 g3).2 rfl ⟨by first|(rw[hE.out];done)|(rw[hE.out];rfl),g1⟩
   |true=>
     have hE:Hid (R=((true,n),2,0)):=(by rw[←hR.out];unfold lkDo;rw[if_pos (by simpa using h1),if_neg (by simp)];exact rfl);clear hR;go_wp2_with fail;go_region_held3 (fun w'=>w'.cell? ⟨w.heap.size+1,0,none⟩=some (.bool true)∧w'.cell? ⟨w.heap.size+1,1,none⟩=some (.int .i64 n)) (first|(with_reducible exact hSE.out _ _ _ _)|(with_reducible exact hSP.out _ _)|(with_reducible exact hS3)|go_keep) (first
      | (go_at_call 231;refine(hT false _).mono ?_;rintro e w2 ⟨rfl,hb20⟩;obtain⟨q0,q1,y0,y1,c0,c1,f0,f1,HX,hS3,hSP,hSE⟩:=KEY.out w2 _ _ _ (HBD.out.trans hb20) H0.out.2.2.2.1 (by omega) (by omega)))
     all_goals
      go_wp2;obtain⟨g1,g2,g3⟩:=four HX.out.1 (by omega) (by omega) (by omega) HX.out.2.1 HX.out.2.2 _ _ _ _ _ rfl;refine bodyPost_ret (zbl _ _ (w.heap.size+1+1+1) (w.heap.size+1+1+1+1) _ _ _ _ (by simp) (by simp) g2 g3).2 rfl ⟨by first|(rw[hE.out];done)|(rw[hE.out];rfl),g1⟩
 |false=>
   cases h2:(o.name==[114,101,108])with
   |true=>
     cases th with
     |false=>
       have hE:Hid (R=((false,n),2,0)):=(by rw[←hR.out];unfold lkDo;rw[if_neg (by simpa using h1),if_pos (by simpa using h2),if_neg (by simp)];exact rfl);clear hR;go_wp2_with fail;go_region_held3 (fun w'=>w'.cell? ⟨w.heap.size+1,0,none⟩=some (.bool false)∧w'.cell? ⟨w.heap.size+1,1,none⟩=some (.int .i64 n)) (first|(with_reducible exact hSE.out _ _ _ _)|(with_reducible exact hSP.out _ _)|(with_reducible exact hS3)|go_keep) (first
        | (go_at_call 231;refine(hT false _).mono ?_;rintro e w2 ⟨rfl,hb20⟩;obtain⟨q0,q1,y0,y1,c0,c1,f0,f1,HX,hS3,hSP,hSE⟩:=KEY.out w2 _ _ _ (HBD.out.trans hb20) H0.out.2.2.2.1 (by omega) (by omega)))
       all_goals
        go_wp2;obtain⟨g1,g2,g3⟩:=four HX.out.1 (by omega) (by omega) (by omega) HX.out.2.1 HX.out.2.2 _ _ _ _ _ rfl;refine bodyPost_ret (zbl _ _ (w.heap.size+1+1+1) (w.heap.size+1+1+1+1) _ _ _ _ (by simp) (by simp) g2 g3).2 rfl ⟨by first|(rw[hE.out];done)|(rw[hE.out];rfl),g1⟩
     |true=>
       cases h3:(n==o.cl)with
       |true=>
         have hE:Hid (R=((false,0),2,1)):=(by rw[←hR.out];unfold lkDo;rw[if_neg (by simpa using h1),if_pos (by simpa using h2),if_pos (by simpa using h3)];exact rfl);clear hR;go_wp2_with fail;refine(hT true _).mono ?_;rintro e w2 ⟨rfl,hb2⟩;have hP2:=(hb2.block _ (zBq H0.out.2.1)).trans H0.out.2.1;have hV2:=(hb2.block _ (zBq H0.out.2.2.1)).trans H0.out.2.2.1;have hS2:=(hb2.block _ (zBq H0.out.2.2.2.1)).trans H0.out.2.2.2.1;have hC2:=(hb2.block _ (zBq H0.out.2.2.2.2)).trans H0.out.2.2.2.2;have hbl2:=H0.out.1.trans (hb2.mono hsz);have q0:w2.cell? ⟨w.heap.size+1+1+1,0,none⟩=some (.bool false):=zBk hP2 0;have q1:w2.cell? ⟨w.heap.size+1+1+1,1,none⟩=some (.int .i64 0):=zBk hP2 1;have y0:=zBn hP2 0;have y1:=zBn hP2 1;have c0:w2.cell? ⟨w.heap.size+1+1+1+1,0,none⟩=some (.int .i64 0):=zBk hV2 0;have c1:w2.cell? ⟨w.heap.size+1+1+1+1,1,none⟩=some (.int .i64 0):=zBk hV2 1;have f0:=zBn hV2 0;have f1:=zBn hV2 1;have HX:=Hid.mk' (And.intro hbl2 (And.intro hP2 hV2));clear hb2 hP2 hV2 hS2 hC2 hbl2;go_wp2;obtain⟨g1,g2,g3⟩:=four HX.out.1 (by omega) (by omega) (by omega) HX.out.2.1 HX.out.2.2 _ _ _ _ _ rfl;refine bodyPost_ret (zbl _ _ (w.heap.size+1+1+1) (w.heap.size+1+1+1+1) _ _ _ _ (by simp) (by simp) g2 g3).2 rfl ⟨by first|(rw[hE.out];done)|(rw[hE.out];rfl),g1⟩
       |false=>
         have hE:Hid (R=((true,n),2,0)):=(by rw[←hR.out];unfold lkDo;rw[if_neg (by simpa using h1),if_pos (by simpa using h2),if_neg (by simpa using h3)];exact rfl);clear hR;go_wp2_with fail;go_region_held3 (fun w'=>w'.cell? ⟨w.heap.size+1,0,none⟩=some (.bool true)∧w'.cell? ⟨w.heap.size+1,1,none⟩=some (.int .i64 n)) (first|(with_reducible exact hSE.out _ _ _ _)|(with_reducible exact hSP.out _ _)|(with_reducible exact hS3)|go_keep) (first
          | (go_at_call 231;refine(hT false _).mono ?_;rintro e w2 ⟨rfl,hb20⟩;obtain⟨q0,q1,y0,y1,c0,c1,f0,f1,HX,hS3,hSP,hSE⟩:=KEY.out w2 _ _ _ (HBD.out.trans hb20) H0.out.2.2.2.1 (by omega) (by omega)))
         all_goals
          go_wp2;obtain⟨g1,g2,g3⟩:=four HX.out.1 (by omega) (by omega) (by omega) HX.out.2.1 HX.out.2.2 _ _ _ _ _ rfl;refine bodyPost_ret (zbl _ _ (w.heap.size+1+1+1) (w.heap.size+1+1+1+1) _ _ _ _ (by simp) (by simp) g2 g3).2 rfl ⟨by first|(rw[hE.out];done)|(rw[hE.out];rfl),g1⟩
   |false=>
     have hE:Hid (R=((th,n),0,0)):=(by rw[←hR.out];unfold lkDo;rw[if_neg (by simpa using h1),if_neg (by simpa using h2)];exact rfl);clear hT hR;go_wp2;obtain⟨g1,g2,g3⟩:=four H0.out.1 (by omega) (by omega) (by omega) H0.out.2.1 H0.out.2.2.1 _ _ _ _ _ rfl;refine bodyPost_ret (zbl _ _ (w.heap.size+1+1+1) (w.heap.size+1+1+1+1) _ _ _ _ (by simp) (by simp) g2 g3).2 rfl ⟨by first|(rw[hE.out];done)|(rw[hE.out];rfl),g1⟩
end Go.Proofs.YtbbkihekjdffpaaGreatDoor.srch
