/- One text. -/
import Derived.Test.YtoeoinpaidhmcaaGreatDoorSrchTU
import Derived.WalkMore
set_option maxHeartbeats 12000000
set_option maxRecDepth 1000000
namespace Go.Proofs.YtoeoinpaidhmcaaGreatDoor.srch
open Tryz
open Go.RowKit Go.Maps
open Go.WideMaps (KeyLaw)
inductive M3 where
 | i
 | b
 | q
structure En (σ:Type) where
 i:σ→Int
 b:σ→Bool
 q:σ→List UInt8
@[reducible] def en {σ:Type} (y:M3) (v:En σ) (s:σ):Value:=match y with | .i=>.int .i64 (v.i s) | .b=>.bool (v.b s) | .q=>.string ⟨(v.q s).toArray⟩
@[reducible] def tC (y:M3):TypeId:=match y with | .i=>248 | .b=>290 | .q=>283
@[reducible] def tS (y:M3):TypeId:=match y with | .i=>255 | .b=>294 | .q=>287
@[reducible] def tL (y:M3):TypeId:=match y with | .i=>249 | .b=>291 | .q=>284
@[reducible] def tM (y:M3):TypeId:=match y with | .i=>246 | .b=>288 | .q=>281
noncomputable def fG (y:M3):Func:=match y with|.i=>Tryz.f93|.b=>Tryz.f101|.q=>Tryz.f100
@[reducible] def gG (y:M3):FuncId:=match y with | .i=>242 | .b=>264 | .q=>254
@[reducible] def kG (y:M3):FuncId:=match y with | .i=>125 | .b=>143 | .q=>142
@[reducible] def bG (y:M3):Nat:=match y with | .i=>32 | .b=>32 | .q=>40
@[reducible] def zG (y:M3):Value:=match y with | .i=>.int .i64 0 | .b=>.bool false | .q=>.string ⟨#[]⟩
def okG {σ:Type}(y:M3)(v:En σ)(s:σ):Prop:=match y with|.i=>(Lit.int .i64 (v.i s)).wf=true|.b=>True|.q=>(⟨(v.q s).toArray⟩:ByteArray).size≤maxLen
def csG {σ:Type}(E:σ→Value)(g:Gr)(s:σ):List Value:=[.int .u64 g.1,.int .u64 g.2,E s]
theorem zsN {σ:Type}{E:σ→Value}(d:∀s a,E s=E a→s=a)(g:Gr)(s:σ)(b:Gr)(a:σ)(h:csG E g s=csG E b a):g=b∧s=a:=by
 simp[csG]at h;exact⟨Prod.ext h.1 h.2.1,d _ _ h.2.2⟩
def wfI (s:Int):Prop:= -9223372036854775808≤s∧s≤9223372036854775807
def LG {σ:Type}(sz:σ→Nat)(b:Int)(m:Mch σ):Prop:=sz m.here.2≤22*(1000000-b.toNat)∧∀s∈m.way,sz s.st≤22*(1000000-b.toNat)
theorem LG.less {σ:Type}{sz:σ→Nat}{b a:Int}{m:Mch σ}(h:LG sz b m)(d:a≤b):LG sz a m:=⟨by have:=h.1;omega,fun s hs=>by have:=h.2 s hs;omega⟩
theorem zGZ {σ:Type}{sz:σ→Nat}{b:Int}{m:Mch σ}{g:Gr}{s:σ}{l:List OpV}{p q:Nat}{d:List (Gr×σ)}(h:LG sz b m)(j:sz s≤sz m.here.2+22)(i:0<b∧b≤1000000):LG sz (b-1) ⟨(g,s),m.way++[⟨m.here.1,m.here.2,p⟩],l,q,d⟩:=by
 obtain⟨e,a⟩:=h;refine⟨by dsimp only;omega,fun x hx=>?_⟩;rcases List.mem_append.1 hx with hx|hx
 ·have:=a x hx;omega
 ·rw[List.mem_singleton]at hx;subst hx;dsimp only;omega
theorem zd9P {σ:Type}{sz:σ→Nat}{b:Int}{m:Mch σ}{s:Stp σ}{l:List (Stp σ)}{o:List OpV}{q:Nat}{d:List (Gr×σ)}(h:LG sz b m)(a:m.way=l++[s]):LG sz b ⟨(s.g,s.st),l,o,q,d⟩:=
 ⟨h.2 s (by rw[a];simp),fun x hx=>h.2 x (by rw[a];simp[hx])⟩
theorem zZm (y:M3):KeyLaw prog (tC y):=by
 cases y
 ·exact deep_law_laid laidOut (m:=3) (by omega) (of_decide_eq_true (by kernel_rfl)) (by kernel_rfl) (by rw[underlying248])
 ·exact deep_law_laid laidOut (m:=3) (by omega) (of_decide_eq_true (by kernel_rfl)) (by kernel_rfl) (by rw[underlying290])
 ·exact deep_law_laid laidOut (m:=3) (by omega) (of_decide_eq_true (by kernel_rfl)) (by kernel_rfl) (by rw[underlying283])
theorem zon {σ:Type}(y:M3)(v:En σ)(g:Gr)(s:σ)(a:wfG g)(b:okG y v s):∃kl,keyOf prog (tC y) (.agg #[.int .u64 g.1,.int .u64 g.2,en y v s])=some kl:=by
 have h:=zA0 a.1;have k:=zA0 a.2;have m:prog.keyType (tC y)=true:=by cases y<;>kernel_rfl
 have e:prog.cellsOf (tC y)=3:=by cases y<;>kernel_rfl
 have p:prog.cellsOf 244=2:=by kernel_rfl
 have i:prog.cellsOf 235=1:=by kernel_rfl
 have n:prog.cellsOf 2=1:=by kernel_rfl
 have j:prog.cellsOf 4=1:=by kernel_rfl
 have l:prog.cellsOf 9=1:=by kernel_rfl
 obtain⟨d,o⟩:∃d,prog.types.size+1=d+3:=⟨prog.types.size-2,by have:10≤prog.types.size:=of_decide_eq_true (by kernel_rfl);omega⟩;unfold keyOf;rw[o];cases y
 all_goals
  dsimp only [okG]at b
  first|rw[underlying248]|rw[underlying290]|rw[underlying283]
  simp only [m,Value.formed,underlying248,underlying290,underlying283,e,Bool.true_and];simp[show List.range 2=[0,1]from rfl,Program.keyLits,underlying248,underlying290,underlying283,underlying244,underlying235,underlying2,underlying4,underlying9,e,p,i,n,j,l,h,k,b,Value.cells]
structure Pt {σ:Type} [DecidableEq σ](y:M3)(d:σ→OpV→σ×Int×Int)(z:σ)(v:En σ)(E:σ→Value)(wf:σ→Prop)(sz:σ→Nat)(tc ts:TypeId)(w:World)(ops:List OpV):Prop where
 hE:∀s,E s=en y v s
 tc:tc=tC y
 ts:ts=tS y
 inj:∀s s',E s=E s'→s=s'
 ok:∀s,wf s→okG y v s
 call:∀s o W,o∈ops→wf s→Below w.heap.size w W→Calls prog (gG y) #[.agg #[],E s,opAg o] W fun e w'=>e=.returned (.tuple #[E (d s o).1,vAg (d s o).2.1 (d s o).2.2])∧Below W.heap.size W w'
 wfd:∀s o,o∈ops→wf s→sz s≤22*999999→wf (d s o).1
 szd:∀s o,o∈ops→sz (d s o).1≤sz s+22
 taken:zNx (stpC (csG E)) (kG y)
 z0:E z=zG y
 wf0:wf z
 sz0:sz z=0
theorem Pt.key {σ:Type} [DecidableEq σ]{y:M3}{d:σ→OpV→σ×Int×Int}{z:σ}{v:En σ}{E:σ→Value}{wf:σ→Prop}{sz:σ→Nat}{b j:TypeId}{w:World}{a:List OpV}(h:Pt y d z v E wf sz b j w a)(g:Gr)(s:σ)(e:wfG g)(i:wf s):∃kl,keyOf prog b (.agg (csG E g s).toArray)=some kl:=by
 unfold csG;rw[h.hE,h.tc];exact zon y v g s e (h.ok s i)
theorem Pt.law {σ:Type} [DecidableEq σ]{y:M3}{d:σ→OpV→σ×Int×Int}{z:σ}{v:En σ}{E:σ→Value}{wf:σ→Prop}{sz:σ→Nat}{b e:TypeId}{w:World}{a:List OpV}(h:Pt y d z v E wf sz b e w a):KeyLaw prog b:=by rw[h.tc];exact zZm y
theorem Pt.map {σ:Type} [DecidableEq σ]{y:M3}{d:σ→OpV→σ×Int×Int}{z:σ}{v:En σ}{E:σ→Value}{wf:σ→Prop}{sz:σ→Nat}{b e:TypeId}{w:World}{a:List OpV}(h:Pt y d z v E wf sz b e w a):prog.underlying (tM y)=some (.map b 3):=by
 rw[h.tc];cases y
 ·exact underlying246
 ·exact underlying288
 ·exact underlying281
theorem Pt.ap {σ:Type} [DecidableEq σ]{y:M3}{d:σ→OpV→σ×Int×Int}{z:σ}{v:En σ}{E:σ→Value}{wf:σ→Prop}{sz:σ→Nat}{q e:TypeId}{w:World}{k:List OpV}(h:Pt y d z v E wf sz q e w k)(W:World)(b:Nat)(a:Option Addr)(n c:Nat)(g:List Value)(o r:Int)(s0:σ)(p:Int)(j:W.ownsRow b e 4 (.slice a n c) n g)(t:n≤3000000)(s:b≤W.heap.size):ApR e (tL y) 4 W b a n c g [.int .u64 o,.int .u64 r,E s0,.int .i64 p]:=by
 have l:(prog.info? (tS y)).map (fun i=>(i.zero,i.size,i.bytes))=some (some (.agg #[.int .u64 0,.int .u64 0,zG y,.int .i64 0]),4,bG y):=by cases y<;>kernel_rfl
 have m:prog.underlying (tL y)=some (.slice (tS y)):=by cases y<;>first|exact underlying249|exact underlying291|exact underlying284
 rw[h.ts]at j⊢;rw[h.hE];cases y<;>exact zUq l m rfl (by decide) (by decide) rfl rfl j (by omega) s
def PJG {σ:Type} [DecidableEq σ](d:σ→OpV→σ×Int×Int)(E:σ→Value)(wf:σ→Prop)(sz:σ→Nat)(tc ts:TypeId)(w:World)(part:List OpV)(pa:Option Addr)(pc:Nat)(r:Out)(l n:Nat)(a:Act)(W:World):Prop:=
 ∃(b:Int) (m:Mch σ) (b9 bm b11 ga:Nat) (oa wa la:Option Addr) (oc yc lc:Nat),(PM tc ts 3 (csG E) wf w w.heap.size (w.heap.size+1) b9 bm b11 ga oa (ordO part) b m wa la yc lc W∧srun d (ordO part) n b (l==0) m=some r∧(-9223372036854775808≤b∧b≤1000000)∧l≤1∧LG sz b m)∧
  ∃u:Nat→Value,a=⟨#[.agg #[],.slice pa part.length pc,.int .i64 b,.pointer (some ⟨w.heap.size,0,none⟩),undef,undef,.pointer (some ⟨w.heap.size+1,0,none⟩),.slice oa part.length oc,.slice (some ⟨ga,0,none⟩) part.length part.length,.pointer (some ⟨b9,0,none⟩),.map (some bm),.pointer (some ⟨b11,0,none⟩),.slice wa m.way.length yc,.slice la m.longest.length lc,.int .i64 (m.place:Int),u 15,u 16,u 17,u 18,u 19,u 20,u 21,u 22,u 23,u 24,u 25,u 26,u 27,u 28,u 29,u 30,u 31,u 32,u 33,u 34,u 35,u 36,u 37,u 38,u 39,u 40,u 41,u 42,u 43,u 44,u 45,u 46,u 47,u 48,u 49,u 50,u 51,u 52,u 53,u 54,u 55,u 56,u 57,u 58,u 59,u 60,u 61,u 62,u 63,u 64,u 65,u 66,u 67,u 68,u 69,u 70,u 71,u 72,u 73,u 74,u 75,u 76,u 77,u 78,u 79,u 80,u 81,u 82,u 83,u 84,u 85,u 86,u 87,u 88,u 89,u 90,u 91,u 92,u 93,u 94,u 95,u 96,u 97,u 98,u 99,u 100,u 101,u 102,u 103,u 104,u 105,u 106,u 107,u 108,u 109,u 110,u 111,u 112,u 113,u 114,u 115,u 116,u 117,u 118,u 119,u 120,u 121,u 122,u 123,u 124,u 125,u 126,u 127,u 128,u 129,u 130,u 131,u 132,u 133,u 134,u 135,u 136,u 137,u 138,u 139],[]⟩
noncomputable def zpa (y:M3):Code:=match (fG y).body with|some (.seq _ (.scope c))=>c|_=>.skip
def QG (y:M3)(w:World)(r:Out):Exit→Act→World→Prop:=bodyPost prog (fG y) fun e w'=>∃a c,e=.returned (.agg #[.int .i64 (r.verdict:Int),.slice a r.order.length c,.int .i64 r.left])∧OAt w' a r.order∧Below w.heap.size w w'∧∀g,a=some ⟨g,0,none⟩→r.order≠[]→w.heap.size≤g
theorem zbt (k:M3)(d:Array Value)(W:World)(b:Nat)(x y z:Value)(g:d[6]?.getD undef=.pointer (some ⟨b,0,none⟩))(a:W.heap[b]?=some (.cells #[x,y,z] 203 (0,0))):
 (results (fG k) d).run prog W=.ok (.agg #[x,y,z]) W:=by
 have c0:W.cell? ⟨b,0,none⟩=some x:=by rw[zBk a];rfl
 have c1:W.cell? ⟨b,1,none⟩=some y:=by rw[zBk a];rfl
 have e:W.cell? ⟨b,2,none⟩=some z:=by rw[zBk a];rfl
 cases k<;>simp[results,fG,results93,results101,results100,go_sem,g,c0,c1,e]
theorem backG_any {σ:Type} [DecidableEq σ]{y:M3}{d:σ→OpV→σ×Int×Int}{z:σ}{v:En σ}{E:σ→Value}{wf:σ→Prop}{sz:σ→Nat}{tc ts:TypeId}(w:World)(part:List OpV)(pa:Option Addr)(pc:Nat)(r:Out)(hl:part.length≤128)(PT:Pt y d z v E wf sz tc ts w (ordO part))(N n:Nat)(a:Act)(W:World)(hN:n≤N)(hJ:PJG d E wf sz tc ts w part pa pc r 1 n a W):
 ∃tail,findLabel (zpa y) 1=some (.seq .skip tail)∧tail.wp prog (zLM (fun l a' w'=>∃n',n'<N∧PJG d E wf sz tc ts w part pa pc r l n' a' w') (QG y w r)) a W:=by
 obtain⟨b,m,b9,bm,k,ga,oa,wa,la,oc,yc,lc,⟨hP,hS,hb,_,b4⟩,u,rfl⟩:=hJ;have bE:=zYV part;have PH:Hid _:=hP;have bI:=Hid.mk' b4;have SH:Hid _:=hS;have LH:Hid _:=bE;have PT:Hid _:=PT;clear hP hS bE b4;generalize hJK:(fun(l:Nat) (a':Act) (w':World)=>∃n',n'<N∧PJG d E wf sz tc ts w part pa pc r l n' a' w')=JK;have JH:Hid _:=hJK;clear hJK;generalize hQK:QG y w r=QK;have QH:Hid _:=hQK;clear hQK;cases y
 all_goals
  refine⟨_,rfl,?_⟩;go_wp2;go_loopg [2,12,14] n (fun gk s2 s12 s14 wr=>∃(C:Int) (p:Nat) (I:List (Gr×σ)),s2=.int .i64 C∧s12=.slice wa m.way.length yc∧s14=.int .i64 (p:Int)∧C≤1000000∧ -9223372036854775808≤C∧gk≤n∧Hid (LG sz C m)∧Hid (PM tc ts 3 (csG E) wf w w.heap.size (w.heap.size+1) b9 bm k ga oa (ordO part) C ⟨m.here,m.way,m.longest,p,I⟩ wa la yc lc wr)∧Hid (srun d (ordO part) gk C false ⟨m.here,m.way,m.longest,p,I⟩=some r))
  case atStart=>exact⟨b,m.place,m.seen,rfl,rfl,rfl,hb.2,hb.1,Nat.le_refl _,bI,PH,SH⟩
  case round=>
   clear PH SH hb bI;obtain⟨C,p,I,rfl,rfl,rfl,ce,ad,c4,aC,P,S1⟩:=hrel;obtain⟨g,rfl⟩:∃g,gk=g+1:=by
    cases gk with
    |zero=>exact absurd S1.out (by simp[srun])
    |succ g=>exact⟨g,rfl⟩
   obtain⟨x6,y6,z6,ak⟩:=P.out.res;have bg:=zBk ak 0;have bB:=zBk ak 1;have bl:=zBk ak 2;have bU:=zBn ak 0;have bO:=zBn ak 1;have bQ:=zBn ak 2;simp at bg bB bl;have aX:=Hid.mk' ak;clear ak;have cQ:m.way.length+C.toNat≤1000000:=P.out.wf.2.2.2.1;have c9:m.way.length≤1000000:=(by have h:m.way.length+C.toNat≤1000000:=P.out.wf.2.2.2.1;omega);by_cases hp:p<part.length
   ·have cX:(p:Int)<(part.length:Int):=(by omega);obtain⟨o,ho⟩:∃o,(ordO part)[p]?=some o:=⟨_,zC (by rw[LH.out];exact hp)⟩;by_cases hb0:C≤0
    ·have hr:Hid (r=⟨0,[],0⟩):=by
      have h:=S1.out;unfold srun at h;dsimp only at h;rw[ho]at h;dsimp only at h;rw[if_pos hb0]at h;injection h with h;exact h.symm
     clear S1 ho;go_wp2
     (try simp only [Exit.inBlock,Exit.then])
     rw[zcM,←QH.out];unfold QG;have ho:=out3 (Nat.le_succ _) P.out.below none [] (fun h=>absurd rfl h) (fun g h=>by cases h) (.int .i64 0) (.slice none 0 0) (.int .i64 0);refine bodyPost_ret (zbt _ _ _ (w.heap.size+1) _ _ _ (by simp) (set3 aX.out _ _ _)) rfl ?_;exact⟨none,0,by rw[hr.out];rfl,by rw[hr.out];exact ho.1,ho.2,(fun g h=>by cases h)⟩
    ·have aH:Hid (srun d (ordO part) g (C-1) (look d (ordO part) o ⟨m.here,m.way,m.longest,p,I⟩).1 (look d (ordO part) o ⟨m.here,m.way,m.longest,p,I⟩).2=some r):=by
      have h:=S1.out;unfold srun at h;dsimp only at h;rw[ho]at h;dsimp only at h;rw[if_neg hb0]at h;exact h
     clear S1;have cU:0<C:=(by omega);have c2:IntKind.i64.wrap (C-1)=C-1:=(by rw[IntKind.wrap_i64];omega);have aZ:zre (ordO part) p=o.call:=(by unfold zre;rw[ho];rfl);obtain⟨ac,a2,bp⟩:=P.out.ahd;have a8:=bp.at0 p (by rw[LH.out];exact hp);have aW:=bp.at1 p (by rw[LH.out];exact hp);rw[aZ]at a8 aW;obtain⟨AH,bF⟩:∃AH,AH=ahG o.call (ordO part) 0 (0,0):=⟨_,rfl⟩;rw[←bF]at a8 aW;have a0:wr.cell? ⟨ga,p*2,none⟩=some (.int .u64 AH.1):=(zBk a2 _).trans a8;have a1:wr.cell? ⟨ga,p*2+1,none⟩=some (.int .u64 AH.2):=(zBk a2 _).trans aW;have bj:=zBq a2;have j:=P.out.here;have V:=zBq j;have g0:wr.cell? ⟨k,0,none⟩=some (.int .u64 m.here.1.1):=zBk j 0;have g1:wr.cell? ⟨k,1,none⟩=some (.int .u64 m.here.1.2):=zBk j 1;have cA:=zLF (x:=⟨k,0,none⟩) V g0;have cu:=zLF (x:=⟨k,1,none⟩) V g1;have cm:=zLF (x:=⟨ga,p*2,none⟩) bj a0;have ct:=zLF (x:=⟨ga,p*2+1,none⟩) bj a1;have ag:=fun W=>has_any m.here.1 p (by omega) W;have ah:=fun W=>zlR AH m.here.1 W;unfold grAg at ag ah;have bw:Hid _:=bF;have HO:Hid _:=ho;have aj:prog.follows .mixedOrders=true:=(by kernel_rfl);clear bF ho aZ a2 bp a8 aW j bg bB bl bU bO bQ aX;have aO:Hid (p+1≤(ordO part).length):=(by show p+1≤_;rw[LH.out];exact hp);cases hA:gHas m.here.1 p with
     |true=>
       have hL:Hid (srun d (ordO part) g (C-1) false ⟨m.here,m.way,m.longest,p+1,I⟩=some r):=by
        have h:=aH.out;unfold look at h;dsimp only at h;rw[hA]at h;exact h
       simp only [hA]at ag;clear aH hA;go_wp2_with fail;refine zhU aj (by kernel_rfl) ?_
       repeat (refine z40z (fun K hK=>?_);go_simp;first|(refine hK _ ?_;clear hK K)|(apply Exists.intro;refine⟨fun _=>?_,hK _ ?_⟩;(first|(go_at_call 126;refine zfm (ag _))|(go_at_call 124;refine zfm (ah _)));clear hK K))
       refine zy7 ?_;intro _ Y;obtain⟨⟨H,ad⟩,rfl⟩:=Y;go_wp2;go_roundg g
       case measure=>omega
       case rel=>exact⟨C-1,p+1,I,rfl,rfl,by go_num,by omega,by omega,by omega,aC.out.less (by omega),(P.out.on ad).at_ (C-1) (by omega) (p+1) aO.out,hL⟩
     |false=>
       simp only [hA]at ag;cases hB:zJn AH m.here.1 with
       |false=>
         have hL:Hid (srun d (ordO part) g (C-1) false ⟨m.here,m.way,m.longest,p+1,I⟩=some r):=by
          have h:=aH.out;unfold look at h;dsimp only at h;rw[←bw.out,hA,hB]at h;exact h
         simp only [hB]at ah;clear aH hA hB;go_wp2_with fail;refine zhU aj (by kernel_rfl) ?_
         repeat (refine z40z (fun K hK=>?_);go_simp;first|(refine hK _ ?_;clear hK K)|(apply Exists.intro;refine⟨fun _=>?_,hK _ ?_⟩;(first|(go_at_call 126;refine zfm (ag _))|(go_at_call 124;refine zfm (ah _)));clear hK K))
         refine zy7 ?_;intro _ Y;obtain⟨⟨H,ad⟩,rfl⟩:=Y;go_wp2;go_roundg g
         case measure=>omega
         case rel=>exact⟨C-1,p+1,I,rfl,rfl,by go_num,by omega,by omega,by omega,aC.out.less (by omega),(P.out.on ad).at_ (C-1) (by omega) (p+1) aO.out,hL⟩
       |true=>
         have Q:=aH.out;unfold look at Q;dsimp only at Q;rw[←bw.out,hA,hB,if_neg (by simp:¬((false||!true)=true))]at Q;replace Q:=Hid.mk' Q;simp only [hB]at ah;clear aH hA hB;go_wp2_with fail;refine zhU aj (by kernel_rfl) ?_
         repeat (refine z40z (fun K hK=>?_);go_simp;first|(refine hK _ ?_;clear hK K)|(apply Exists.intro;refine⟨fun _=>?_,hK _ ?_⟩;(first|(go_at_call 126;refine zfm (ag _))|(go_at_call 124;refine zfm (ah _)));clear hK K))
         refine zy7 ?_;intro _ Y;obtain⟨⟨H,ad⟩,rfl⟩:=Y;obtain⟨H,bW,ad⟩:∃H,H=_∧Below wr.heap.size wr H:=⟨_,rfl,ad⟩;rw[←bW];clear bW;have Z:Hid _:=P.out.on ad;have ba:=List.mem_of_getElem? HO.out;have bP:=Hid.mk' (PT.out.szd m.here.2 o ba);have bi:wf (d m.here.2 o).1:=PT.out.wfd m.here.2 o ba Z.out.wf.2.1 (by have h1:=aC.out.1;omega);have bN:Hid _:=bi;clear P bi g0 g1 a0 a1 cA cu cm ct ag ah bw ad V bj;obtain⟨t,ch,J,bu⟩:=Z.out.row.1 (by intro h;rw[h]at HO;simp at HO;exact absurd HO.out (by simp));subst ch;have A:∀i u,(opvCells o)[i]?=some u→H.cell? ⟨t,p*10+i,none⟩=some u:=by
          intro i u hu;obtain⟨bL,cI⟩:=zB HO.out;have hi:i<10:=(by have:=(zB hu).1;exact this);have:=zvc (ordO part) p bL i hi;rw[cI]at this;exact bu _ u (this.trans hu)
         have j:=Z.out.here;have V:=zBq j;have g2:H.cell? ⟨k,2,none⟩=some (E m.here.2):=zBk j 2;have O:(fun w'=>w'.cell? ⟨k,2,none⟩=some (E m.here.2)∧w'.cell? ⟨t,p*10,none⟩=some (.int .i64 o.id)∧w'.cell? ⟨t,p*10+1,none⟩=some (.int .i64 o.cl)∧w'.cell? ⟨t,p*10+2,none⟩=some (.string ⟨o.name.toArray⟩)∧w'.cell? ⟨t,p*10+3,none⟩=some (.string ⟨o.key.toArray⟩)∧w'.cell? ⟨t,p*10+4,none⟩=some (.int .i64 o.arg)∧w'.cell? ⟨t,p*10+5,none⟩=some (.int .i64 o.exp)∧w'.cell? ⟨t,p*10+6,none⟩=some (.int .i64 o.call)∧w'.cell? ⟨t,p*10+7,none⟩=some (.int .i64 o.ret)∧w'.cell? ⟨t,p*10+8,none⟩=some (.int .i64 o.vk)∧w'.cell? ⟨t,p*10+9,none⟩=some (.int .i64 o.vn)) H:=⟨g2,A 0 _ rfl,A 1 _ rfl,A 2 _ rfl,A 3 _ rfl,A 4 _ rfl,A 5 _ rfl,A 6 _ rfl,A 7 _ rfl,A 8 _ rfl,A 9 _ rfl⟩;have bK:∀w3,Below H.heap.size H w3→(fun w'=>w'.cell? ⟨k,2,none⟩=some (E m.here.2)∧w'.cell? ⟨t,p*10,none⟩=some (.int .i64 o.id)∧w'.cell? ⟨t,p*10+1,none⟩=some (.int .i64 o.cl)∧w'.cell? ⟨t,p*10+2,none⟩=some (.string ⟨o.name.toArray⟩)∧w'.cell? ⟨t,p*10+3,none⟩=some (.string ⟨o.key.toArray⟩)∧w'.cell? ⟨t,p*10+4,none⟩=some (.int .i64 o.arg)∧w'.cell? ⟨t,p*10+5,none⟩=some (.int .i64 o.exp)∧w'.cell? ⟨t,p*10+6,none⟩=some (.int .i64 o.call)∧w'.cell? ⟨t,p*10+7,none⟩=some (.int .i64 o.ret)∧w'.cell? ⟨t,p*10+8,none⟩=some (.int .i64 o.vk)∧w'.cell? ⟨t,p*10+9,none⟩=some (.int .i64 o.vn)) w3:=fun w3 h=>⟨(h.cell (p:=⟨k,2,none⟩) V).trans O.1,(h.cell (p:=⟨t,p*10,none⟩) J).trans O.2.1,(h.cell (p:=⟨t,p*10+1,none⟩) J).trans O.2.2.1,(h.cell (p:=⟨t,p*10+2,none⟩) J).trans O.2.2.2.1,(h.cell (p:=⟨t,p*10+3,none⟩) J).trans O.2.2.2.2.1,(h.cell (p:=⟨t,p*10+4,none⟩) J).trans O.2.2.2.2.2.1,(h.cell (p:=⟨t,p*10+5,none⟩) J).trans O.2.2.2.2.2.2.1,(h.cell (p:=⟨t,p*10+6,none⟩) J).trans O.2.2.2.2.2.2.2.1,(h.cell (p:=⟨t,p*10+7,none⟩) J).trans O.2.2.2.2.2.2.2.2.1,(h.cell (p:=⟨t,p*10+8,none⟩) J).trans O.2.2.2.2.2.2.2.2.2.1,(h.cell (p:=⟨t,p*10+9,none⟩) J).trans O.2.2.2.2.2.2.2.2.2.2⟩;have am:=Hid.mk' bK;have cx:=O;obtain⟨q2,o0,o1,o2,o3,o4,o5,o6,o7,o8,o9⟩:=O;have aD:=Hid.mk' (show Below H.heap.size H H.drew from(zD).drew);have aN:=fun W (hW:Below H.heap.size H W)=>PT.out.call m.here.2 o W ba Z.out.wf.2.1 (Z.out.below.trans (hW.mono Z.out.below.size));clear ba;obtain⟨R,hR⟩:∃R,R=d m.here.2 o:=⟨_,rfl⟩;rw[←hR]at aN bP;have HR:Hid _:=hR;unfold opAg vAg at aN;clear bK A bu j g2 hR;go_wp2_with fail;go_cut [15,16]from 300 (fun s15 s16 wc=>s15=E R.1∧∃e:Nat,s16=.pointer (some ⟨e,0,none⟩)∧H.heap.size≤e∧wc.heap[e]?=some (.cells #[.int .i64 R.2.1,.int .i64 R.2.2] 25 (0,0))∧Below H.heap.size H wc)
         case first=>
          first|go_region_held3 (fun w'=>w'.cell? ⟨k,2,none⟩=some (E m.here.2)∧w'.cell? ⟨t,p*10,none⟩=some (.int .i64 o.id)∧w'.cell? ⟨t,p*10+1,none⟩=some (.int .i64 o.cl)∧w'.cell? ⟨t,p*10+2,none⟩=some (.string ⟨o.name.toArray⟩)∧w'.cell? ⟨t,p*10+3,none⟩=some (.string ⟨o.key.toArray⟩)∧w'.cell? ⟨t,p*10+4,none⟩=some (.int .i64 o.arg)∧w'.cell? ⟨t,p*10+5,none⟩=some (.int .i64 o.exp)∧w'.cell? ⟨t,p*10+6,none⟩=some (.int .i64 o.call)∧w'.cell? ⟨t,p*10+7,none⟩=some (.int .i64 o.ret)∧w'.cell? ⟨t,p*10+8,none⟩=some (.int .i64 o.vk)∧w'.cell? ⟨t,p*10+9,none⟩=some (.int .i64 o.vn)) (first|(with_reducible exact bR)|(with_reducible exact am.out _ (X.out.alloc X.out.size _))|(with_reducible exact am.out _ (aD.out.alloc zH _))|(with_reducible exact am.out _ (((X.out.alloc X.out.size _).setCell (p:=⟨_,0,none⟩) X.out.size _).setCell (p:=⟨_,1,none⟩) X.out.size _))|(with_reducible exact am.out _ ((X.out.setCell (p:=⟨_,0,none⟩) zH _).setCell (p:=⟨_,1,none⟩) zH _))|go_keep) (first
           | ((first|go_at_call 242|go_at_call 264|go_at_call 254);refine(aN _ (aD.out.alloc zH _)).mono ?_;rintro e w3 ⟨rfl,aK⟩;have ab:=zKZ (w:=H.drew) aK;have b1:=zEL aD.out aK;have X:=Hid.mk' b1;have bR:=am.out w3 b1;have co:=Hid.mk' ab;have cW:w3.cell? ⟨H.heap.size,0,none⟩=some (.int .i64 0):=zBk ab 0;have cZ:w3.cell? ⟨H.heap.size,1,none⟩=some (.int .i64 0):=zBk ab 1;have cV:w3.frozen? ⟨H.heap.size,0,none⟩=false:=zBn ab 0;have c6:w3.frozen? ⟨H.heap.size,1,none⟩=false:=zBn ab 1;clear ab)
           | ((first|go_at_call 242|go_at_call 264|go_at_call 254);refine(aN _ aD.out).mono ?_;rintro e w3 ⟨rfl,aK⟩;have bT:Below H.heap.size H w3:=aD.out.trans aK;have X:=Hid.mk' bT;have bR:=am.out w3 bT))|fail
          ·go_wp2;go_meet
           case rel=>exact⟨rfl,w3.heap.size,rfl,X.out.size,ziF _ _ _ rfl,X.out.alloc X.out.size _⟩
          ·go_wp2;go_meet
           case rel=>exact⟨rfl,H.heap.size,rfl,Nat.le_refl _,vset co.out _ _,(X.out.setCell (p:=⟨H.heap.size,0,none⟩) zH _).setCell (p:=⟨H.heap.size,1,none⟩) zH _⟩
         case rest=>
          obtain⟨rfl,bd,rfl,cb,ar,a3⟩:=hcut;have P3:Hid _:=Z.out.on a3;have aa:=am.out wc a3;have aS:=zBq ar;have M:=zI J a3.size;have v0:wc.cell? ⟨bd,0,none⟩=some (.int .i64 R.2.1):=zBk ar 0;have v1:wc.cell? ⟨bd,1,none⟩=some (.int .i64 R.2.2):=zBk ar 1;have cw:=zLF (x:=⟨bd,0,none⟩) aS v0;have cE:=zLF (x:=⟨bd,1,none⟩) aS v1;have cz:=zLF (x:=⟨t,p*10,none⟩) M aa.2.1;have cv:=zLF (x:=⟨t,p*10+1,none⟩) M aa.2.2.1;have cB:=zLF (x:=⟨t,p*10+2,none⟩) M aa.2.2.2.1;have cJ:=zLF (x:=⟨t,p*10+3,none⟩) M aa.2.2.2.2.1;have cK:=zLF (x:=⟨t,p*10+4,none⟩) M aa.2.2.2.2.2.1;have cd:=zLF (x:=⟨t,p*10+5,none⟩) M aa.2.2.2.2.2.2.1;have cG:=zLF (x:=⟨t,p*10+6,none⟩) M aa.2.2.2.2.2.2.2.1;have cn:=zLF (x:=⟨t,p*10+7,none⟩) M aa.2.2.2.2.2.2.2.2.1;have cs:=zLF (x:=⟨t,p*10+8,none⟩) M aa.2.2.2.2.2.2.2.2.2.1;have cL:=zLF (x:=⟨t,p*10+9,none⟩) M aa.2.2.2.2.2.2.2.2.2.2;have U:=fun W=>znl o W;unfold opAg at U;clear cx am aD aN Z v0 v1 aa q2 o0 o1 o2 o3 o4 o5 o6 o7 o8 o9 cb J ar a3;obtain⟨bq,bV⟩:∃bq:Bool,bq=decide (o.ret≠0∧(R.2.1,R.2.2)≠(o.vk,o.vn)):=⟨_,rfl⟩;have aF:Hid _:=bV;clear bV;go_upto_region 20 with fail;go_cut [94]from 300 (fun s wd=>s=.bool bq∧Below wc.heap.size wc wd)
          case first=>
           by_cases hret:o.ret=0
           ·have hQ:Hid (bq=false):=(by show _=_;rw[aF.out];exact decide_eq_false (fun h=>h.1 hret));have bA:(o.ret==0)=true:=(by simpa using hret);simp only [bA]at U;clear hret;refine zhU aj (by kernel_rfl) ?_
            repeat (refine z40z (fun K hK=>?_);go_simp;first|(refine hK _ ?_;clear hK K)|(apply Exists.intro;refine⟨fun _=>?_,hK _ ?_⟩;(go_at_call 127;refine zfm (U _));clear hK K))
            refine zy7 ?_;intro _ Y;obtain⟨⟨w4,aQ⟩,rfl⟩:=Y;go_wp2;go_meet
            case rel=>exact⟨by rw[hQ.out],aQ⟩
           ·have bA:(o.ret==0)=false:=(by simpa using hret);simp only [bA]at U;by_cases heq:(R.2.1,R.2.2)=(o.vk,o.vn)
            ·have hQ:Hid (bq=false):=(by show _=_;rw[aF.out];exact decide_eq_false (fun h=>h.2 heq));have ca:∀W:World,(binOp .neq 25 (.agg #[.int .i64 R.2.1,.int .i64 R.2.2]) (.agg #[.int .i64 o.vk,.int .i64 o.vn])).run prog W=.ok (.bool false) W:=fun W=>(by rw[neqV,decide_eq_true ⟨(Prod.mk.inj heq).1,(Prod.mk.inj heq).2⟩];rfl);clear hret heq;refine zhU aj (by kernel_rfl) ?_
             repeat (refine z40z (fun K hK=>?_);go_simp;first|(refine hK _ ?_;clear hK K)|(apply Exists.intro;refine⟨fun _=>?_,hK _ ?_⟩;(go_at_call 127;refine zfm (U _));clear hK K))
             refine zy7 ?_;intro _ Y;obtain⟨⟨w4,aQ⟩,rfl⟩:=Y;go_wp2;go_meet
             case rel=>exact⟨by rw[hQ.out],aQ⟩
            ·have hQ:Hid (bq=true):=(by show _=_;rw[aF.out];exact decide_eq_true ⟨hret,heq⟩);have ca:∀W:World,(binOp .neq 25 (.agg #[.int .i64 R.2.1,.int .i64 R.2.2]) (.agg #[.int .i64 o.vk,.int .i64 o.vn])).run prog W=.ok (.bool true) W:=fun W=>(by rw[neqV,decide_eq_false (fun h=>heq (Prod.ext h.1 h.2))];rfl);clear hret heq;refine zhU aj (by kernel_rfl) ?_
             repeat (refine z40z (fun K hK=>?_);go_simp;first|(refine hK _ ?_;clear hK K)|(apply Exists.intro;refine⟨fun _=>?_,hK _ ?_⟩;(go_at_call 127;refine zfm (U _));clear hK K))
             refine zy7 ?_;intro _ Y;obtain⟨⟨w4,aQ⟩,rfl⟩:=Y;go_wp2;go_meet
             case rel=>exact⟨by rw[hQ.out],aQ⟩
          case rest=>
           obtain⟨rfl,bJ⟩:=hcut;have P4:Hid _:=P3.out.on bJ;clear P3 U cw cE cz cv cB cJ cK cd cG cn cs cL aS M bJ;cases bq with
           |true=>
             have hL:Hid (srun d (ordO part) g (C-1) false ⟨m.here,m.way,m.longest,p+1,I⟩=some r):=by
              have h:=Q.out;rw[←HR.out,if_pos (of_decide_eq_true aF.out.symm)]at h;exact h
             clear Q;go_wp2;go_roundg g
             case measure=>omega
             case rel=>exact⟨C-1,p+1,I,rfl,rfl,by go_num,by omega,by omega,by omega,aC.out.less (by omega),P4.out.at_ (C-1) (by omega) (p+1) aO.out,hL⟩
           |false=>
             have af:=Q.out;rw[←HR.out,if_neg (of_decide_eq_false aF.out.symm)]at af;replace af:=Hid.mk' af;clear Q aF;have j:=P4.out.here;have V:=zBq j;have g0:wc.cell? ⟨k,0,none⟩=some (.int .u64 m.here.1.1):=zBk j 0;have g1:wc.cell? ⟨k,1,none⟩=some (.int .u64 m.here.1.2):=zBk j 1;have aq:=fun W=>zxl m.here.1 p (by omega) W;unfold grAg at aq;obtain⟨B,be⟩:∃B,B=zdS m.here.1 p:=⟨_,rfl⟩;rw[←be]at aq;have bb:Hid _:=be;clear be j;have al:=PT.out.hE R.1;have aL:=PT.out.tc;dsimp only [en]at al;dsimp only [tC]at aL;rw[al];replace al:=Hid.mk' al;replace aL:=Hid.mk' aL;go_wp2_with (go_at_call 128;refine(aq _).mono ?_;rintro e w5 ⟨rfl,a5⟩);obtain⟨W6,aM⟩:∃W6,W6=w5.alloc (.cells #[.int .u64 B.1,.int .u64 B.2,E R.1] tc):=⟨_,rfl⟩;rw[al.out,aL.out]at aM;rw[←aM];have bX:Below wc.heap.size wc W6:=(by rw[aM];exact a5.alloc a5.size _);have P6:Hid _:=P4.out.on bX;have F:W6.heap[w5.heap.size]?=some (.cells #[.int .u64 B.1,.int .u64 B.2,E R.1] tc (0,0)):=(by rw[al.out,aL.out,aM];exact ziF _ _ _ rfl);have b8:wc.heap.size≤w5.heap.size:=a5.size;generalize w5.heap.size=e17 at F b8⊢;have cq:=P6.out.ord;have cN:e17≠bm∧e17≠k:=(by have:=P4.out.ord;omega);have aA:wfG B:=(by rw[bb.out];exact zgs P4.out.wf.1 p);have aB:wf R.1:=(by rw[HR.out];exact bN.out);have aR:=Hid.mk' (show ∀D,(Value.slice wa m.way.length yc).ownBlock=some D→D<wc.heap.size from fun D h=>(P4.out.way.lt D h).2);clear aM a5 bX g0 g1 aq P4 V;obtain⟨kl,b7⟩:=PT.out.key B R.1 aA aB;obtain⟨sN,a7,aV⟩:=P6.out.seen;have b2:=zKN tc (csG E) wf PT.out.law PT.out.map (zsN PT.out.inj) (a7.same _ _ _ (W':=W6.drew) rfl) (by omega) (B,R.1) aA aB b7;dsimp only [csG]at b2;obtain⟨q,st,w7,w8,c7,bY,b3,hE,bZ,bS,cy,b5,cp,br,ck,a4⟩:=b2;have bM:(Instr.mapEntry (tM _) (.map (some bm)) (.agg #[.int .u64 B.1,.int .u64 B.2,E R.1])).run prog W6.drew=.ok (.tuple #[.int .i64 (q:Int),.int .i64 (st:Int)]) w7:=hE;have bs:(Instr.entryStore (tM _) (.map (some bm)) (.int .i64 (st:Int)) (.int .i64 ((q:Int)+1))).run prog w7=.ok () w8:=bS;dsimp only [tM]at bM bs b3 bZ cy;have au:=zBq F;have aw:w7.heap[e17]?=some (.cells #[.int .u64 B.1,.int .u64 B.2,E R.1] tc (0,0)):=(b5.block e17 au (by simp;omega)).trans F;have ai:w8.heap[e17]?=some (.cells #[.int .u64 B.1,.int .u64 B.2,E R.1] tc (0,0)):=(br.block e17 au (by simp;omega)).trans F;have k0:W6.cell? ⟨e17,0,none⟩=some (.int .u64 B.1):=zBk F 0;have k1:W6.cell? ⟨e17,1,none⟩=some (.int .u64 B.2):=zBk F 1;have k2:W6.cell? ⟨e17,2,none⟩=some (E R.1):=zBk F 2;have l0:w7.cell? ⟨e17,0,none⟩=some (.int .u64 B.1):=zBk aw 0;have l1:w7.cell? ⟨e17,1,none⟩=some (.int .u64 B.2):=zBk aw 1;have l2:w7.cell? ⟨e17,2,none⟩=some (E R.1):=zBk aw 2;have n0:w8.cell? ⟨e17,0,none⟩=some (.int .u64 B.1):=zBk ai 0;have n1:w8.cell? ⟨e17,1,none⟩=some (.int .u64 B.2):=zBk ai 1;have n2:w8.cell? ⟨e17,2,none⟩=some (E R.1):=zBk ai 2;have c5:IntKind.i64.wrap ((q:Int)+1)=(q:Int)+1:=(by rw[IntKind.wrap_i64];omega);have aE:=Hid.mk' br;obtain⟨SN,bk,bx,bn⟩:∃SN,((B,R.1)∈I→SN=I)∧((B,R.1)∉I→SN=(B,R.1)::I)∧SeenAt tc (csG E) wf w8 bm (sN+1) SN:=⟨_,fun h=>if_pos h,fun h=>if_neg h,a4⟩;have bz:=Hid.mk' (And.intro bn aV);have cD:=Hid.mk' bk;have ci:=Hid.mk' bx;have aU:=Hid.mk' bY;have a6:=Hid.mk' ai;clear bk bx bn hE bS b7 a7 aV a4 bY b5 br F aw ai aA aB;go_big_region_o;have bc:Kept [bm] W6 w8:=⟨aE.out.os,aE.out.tape,aE.out.output,aE.out.size,aE.out.block⟩;have b6:W6.heap[k]?=w8.heap[k]?:=(bc.block k (by omega) (by simp;omega)).symm;have aJ:w8.ownsRow (k+1) ts 4 (.slice wa m.way.length yc) m.way.length (m.way.flatMap (stpC (csG E))):=owns_same P6.out.way (fun D G=>by have h9:=P6.out.way.lt D G;exact bc.block D h9.2 (by simp;omega))
             have P8:Hid (PM tc ts 3 (csG E) wf w w.heap.size (w.heap.size+1) b9 bm k ga (some ⟨t,0,none⟩) (ordO part) (C-1) ⟨m.here,m.way,m.longest,p,SN⟩ wa la yc lc w8):=by
              obtain⟨f1,f2,f3,f4,f5⟩:=P6.out.wf;exact P6.out.turn (S:=[bm]) bc (fun D G=>Or.inl (by simpa using G)) rfl ⟨sN+1,bz.out.1,by have:=bz.out.2;omega⟩ (by rw[←b6];exact P6.out.here) aJ P6.out.dis ⟨f1,f2,f3,by dsimp only at f4⊢;omega,f5⟩
             clear aE bz b3 bZ bM bs k0 k1 k2 l0 l1 l2 P6 b6 bc cp ck;by_cases hqz:q=0
             ·have aT:(B,R.1)∉I:=aU.out.1 hqz;have hL:Hid (srun d (ordO part) g (C-1) true ⟨(B,R.1),m.way++[⟨m.here.1,m.here.2,p⟩],m.longest,p,(B,R.1)::I⟩=some r):=by
               have h:=af.out;rw[←bb.out,if_neg aT]at h;exact h
              have P9:Hid _:=P8.out;rw[ci.out aT]at P9;have cH:((q:Int)+1==1)=true:=(by rw[hqz];rfl);clear af aT P8;have j:=P9.out.here;have g0:w8.cell? ⟨k,0,none⟩=some (.int .u64 m.here.1.1):=zBk j 0;have g1:w8.cell? ⟨k,1,none⟩=some (.int .u64 m.here.1.2):=zBk j 1;have g2:w8.cell? ⟨k,2,none⟩=some (E m.here.2):=zBk j 2;obtain⟨a',c',w9,bC,a9,aP,bh⟩:=PT.out.ap w8 (k+1) wa m.way.length yc _ m.here.1.1 m.here.1.2 m.here.2 (p:Int) aJ (by omega) (by have:=P9.out.ord;omega);have aY:=PT.out.hE m.here.2;have an:=PT.out.ts;dsimp only [en]at aY;dsimp only [tS]at an;rw[aY]at g2;dsimp only [tL]at bC;rw[aY,an]at bC;clear aY an;have aI:∀D,D∈(Value.slice wa m.way.length yc).ownBlock.toList→k<D∧D<wc.heap.size∧(Value.slice la m.longest.length lc).ownBlock≠some D:=fun D G=>by
               have e:(Value.slice wa m.way.length yc).ownBlock=some D:=(by simpa using G);exact⟨(P9.out.way.lt D e).1,aR.out D e,P9.out.dis D e⟩
              have au:=zBq a6.out;have bH:=zBq j;have av:w9.heap[e17]?=_:=(aP.block e17 au (fun h=>by have:=aI e17 h;omega)).trans a6.out;have L:w9.heap[k]?=_:=(aP.block k bH (fun h=>by have:=aI k h;omega)).trans j;have x0:w9.cell? ⟨e17,0,none⟩=some (.int .u64 B.1):=zBk av 0;have x1:w9.cell? ⟨e17,1,none⟩=some (.int .u64 B.2):=zBk av 1;have x2:w9.cell? ⟨e17,2,none⟩=some (E R.1):=zBk av 2;have y0:w9.cell? ⟨k,0,none⟩=some (.int .u64 m.here.1.1):=zBk L 0;have y1:w9.cell? ⟨k,1,none⟩=some (.int .u64 m.here.1.2):=zBk L 1;have y2:w9.cell? ⟨k,2,none⟩=some (E m.here.2):=zBk L 2;rw[al.out]at x2;have z0:=zBn L 0;have z1:=zBn L 1;have z2:=zBn L 2;have cS:=P9.out.ord;obtain⟨f1,f2,f3,f4,f5⟩:=P9.out.wf;have ay:Hid (PM tc ts 3 (csG E) wf w w.heap.size (w.heap.size+1) b9 bm k ga (some ⟨t,0,none⟩) (ordO part) (C-1) ⟨m.here,m.way++[⟨m.here.1,m.here.2,p⟩],m.longest,p,(B,R.1)::I⟩ a' la c' lc w9):=by
               obtain⟨sM,bf,bt⟩:=P9.out.seen;refine P9.out.turn (S:=(Value.slice wa m.way.length yc).ownBlock.toList) aP (fun D G=>Or.inr (Or.inr ⟨(aI D G).1,(aI D G).2.2⟩)) rfl ⟨sM,bf.same _ _ _ (aP.block bm (by omega) (fun h=>by have:=aI bm h;omega)),bt⟩ L ?_ ?_ ⟨f1,f2,f3,by dsimp only;rw[zJ,List.length_singleton];omega,?_⟩
               ·dsimp only;rw[zJ,List.length_singleton,List.flatMap_append];exact a9
               ·intro D G;dsimp only at G;rw[zJ,List.length_singleton]at G;rcases bh with e|⟨g3,e,hge⟩
                ·rw[e]at G;exact P9.out.dis D G
                ·rw[e]at G;injection G with G;intro h9;have:=(P9.out.lng.lt D h9).2;omega
               ·intro x hx;dsimp only at hx;rcases List.mem_append.1 hx with hx|hx
                ·exact f5 x hx
                ·rw[List.mem_singleton]at hx;subst hx;exact⟨f1,f2,by have h:=aO.out;show p<_;omega⟩
              have aA:wfG B:=(by rw[bb.out];exact zgs f1 p);have aB:wf R.1:=(by rw[HR.out];exact bN.out);have HY:=Hid.mk' L;clear P9 a9 bh aI av L j aP aJ aR a6 f1 f2 f3 f4 f5 aU;go_wp2_with (at_builtin;refine zOu rfl _ _ _ rfl _ _ _ _ rfl rfl bC ?_);go_step3
              (try simp only [Exit.inBlock,Exit.then])
              rw[zXw,←JH.out,←al.out];refine⟨g,by omega,C-1,(⟨(B,R.1),m.way++[(⟨m.here.1,m.here.2,p⟩:Stp σ)],m.longest,p,(B,R.1)::I⟩:Mch σ),b9,bm,k,ga,some ⟨t,0,none⟩,a',la,oc,c',lc,⟨?_,hL.out,⟨by omega,by omega⟩,Nat.zero_le _,zGZ aC.out bP.out (by omega)⟩,exU _ _ (by rw[zJ];rfl)⟩;have kp:Kept [k] w9 (((w9.setCell ⟨k,0,none⟩ (.int .u64 B.1)).setCell ⟨k,1,none⟩ (.int .u64 B.2)).setCell ⟨k,2,none⟩ (E R.1)):=(((Kept.refl _ w9).setCell (p:=⟨k,0,none⟩) (Or.inl (by simp)) _).setCell (p:=⟨k,1,none⟩) (Or.inl (by simp)) _).setCell (p:=⟨k,2,none⟩) (Or.inl (by simp)) _;obtain⟨sM,bf,bt⟩:=ay.out.seen;obtain⟨f1,f2,f3,f4,f5⟩:=ay.out.wf;have cM:=ay.out.ord;exact ay.out.turn (S:=[k]) kp (fun D G=>Or.inr (Or.inl (by simpa using G))) rfl ⟨sM,bf.same _ _ _ (kp.block bm (by omega) (by simp;omega)),bt⟩ (set3 HY.out _ _ _) (owns_same ay.out.way (fun D G=>by have h9:=ay.out.way.lt D G;exact kp.block D h9.2 (by simp;omega))) ay.out.dis ⟨aA,aB,f3,f4,f5⟩
             ·have bD:(B,R.1)∈I:=by
               by_cases h:(B,R.1)∈I
               ·exact h
               ·exact absurd (aU.out.2 h) hqz
              have hL:Hid (srun d (ordO part) g (C-1) false ⟨m.here,m.way,m.longest,p+1,I⟩=some r):=by
               have h:=af.out;rw[←bb.out,if_pos bD]at h;exact h
              have P9:Hid _:=P8.out;rw[cD.out bD]at P9;have cH:((q:Int)+1==1)=false:=(by simp;omega);clear af P8 bD aJ aR a6 aU;go_wp2;go_roundg g
              case measure=>omega
              case rel=>exact⟨C-1,p+1,I,rfl,rfl,by go_num,by omega,by omega,by omega,aC.out.less (by omega),P9.out.at_ (C-1) (Int.le_refl _) (p+1) aO.out,hL⟩
   ·have hz:¬(p:Int)<(part.length:Int):=(by omega);have ao:(ordO part)[p]?=none:=List.getElem?_eq_none (by rw[LH.out];omega);cases hwl:m.way.getLast? with
    |none=>
      have b0:m.way=[]:=List.getLast?_eq_none_iff.1 hwl;have hr:Hid (r=⟨2,m.longest,C⟩):=by
       have h:=S1.out;unfold srun at h;rw[ao]at h;dsimp only at h;rw[hwl]at h;injection h with h;exact h.symm
      have hq:(m.way.length:Int)=0:=(by rw[b0];rfl);clear S1 hwl b0 ao;go_wp2;rw[zcM,←QH.out];unfold QG;have cF:=zK9 P.out;have ho:=out3 (Nat.le_succ _) P.out.below la m.longest (z6a P.out.lng) cF (.int .i64 2) (.slice la m.longest.length lc) (.int .i64 C);refine bodyPost_ret (zbt _ _ _ (w.heap.size+1) _ _ _ (by simp) (set3 aX.out _ _ _)) rfl ?_;exact⟨la,lc,by rw[hr.out];rfl,by rw[hr.out];exact ho.1,ho.2,(fun D e1 _=>zN4 P.out D e1)⟩
    |some s=>
      obtain⟨l,ae⟩:∃l,m.way=l++[s]:=List.getLast?_eq_some_iff.1 hwl;have cf:m.way.length=l.length+1:=(by rw[ae];simp);obtain⟨q,hq⟩:∃q,l.length=q:=⟨_,rfl⟩;rw[hq]at cf;have hr:Hid (srun d (ordO part) g C false ⟨(s.g,s.st),l,m.longest,s.pl+1,I⟩=some r):=by
       have h:=S1.out;unfold srun at h;rw[ao]at h;dsimp only at h;rw[hwl]at h;dsimp only at h;rw[ae,List.dropLast_concat]at h;exact h
      obtain⟨gw,cg,da⟩:∃gw,wa=some ⟨gw,0,none⟩∧q≤yc:=by
       obtain⟨_,⟨_,h2⟩|⟨D,_,_,h2,_,_,h3,_⟩⟩:=P.out.way
       ·have c3:m.way.length=0:=h2;omega
       ·injection h2 with h2 _ h4;have cY:m.way.length≤_:=h3;exact⟨D,h2,by omega⟩
      subst cg;have A:∀i u,(stpC (csG E) s)[i]?=some u→wr.cell? ⟨gw,q*4+i,none⟩=some u:=by
       intro i u hu;have h:=P.out.way.cells (g:=gw) rfl (q*4+i) u;dsimp only at h;rw[ae,List.flatMap_append]at h;rw[Addr.add_lit,Nat.zero_add]at h;apply h;have cC:(l.flatMap (stpC (csG E))).length=q*4:=(by rw[←hq];exact z74 (fun _=>rfl) l);rw[List.getElem?_append_right (by omega),cC,Nat.add_sub_cancel_left];simpa using hu
      have d0:wr.cell? ⟨gw,q*4,none⟩=some (.int .u64 s.g.1):=A 0 _ rfl;have d1:wr.cell? ⟨gw,q*4+1,none⟩=some (.int .u64 s.g.2):=A 1 _ rfl;have d2:wr.cell? ⟨gw,q*4+2,none⟩=some (E s.st):=A 2 _ rfl;have d3:wr.cell? ⟨gw,q*4+3,none⟩=some (.int .i64 (s.pl:Int)):=A 3 _ rfl;have az:=PT.out.hE s.st;have an:=PT.out.ts;dsimp only [en]at az;dsimp only [tS]at an;rw[az]at d2;replace az:=Hid.mk' az;replace an:=Hid.mk' an;have cP:s.pl<128:=by
       have h:=(P.out.wf.2.2.2.2 s (by show s∈m.way;rw[ae];simp)).2.2;rw[LH.out]at h;omega
      clear A;have j:=P.out.here;have g0:=zBk j 0;have g1:=zBk j 1;have g2:=zBk j 2;have z0:=zBn j 0;have z1:=zBn j 1;have z2:=zBn j 2;have V:=zBq j;simp[csG]at g0 g1 g2;have cj:Hid _:=And.intro ae hq;clear S1 hwl ae hq ao j;go_wp2;have ax:∃W1,W1=wr.alloc (.cells #[.int .u64 s.g.1,.int .u64 s.g.2,E s.st,.int .i64 (s.pl:Int)] ts):=⟨_,rfl⟩;obtain⟨W1,ax⟩:=ax;have Z:Hid _:=P.out.on (W':=W1) (by rw[ax];exact zA _ _);have F:W1.heap[wr.heap.size]?=some (.cells #[.int .u64 s.g.1,.int .u64 s.g.2,E s.st,.int .i64 (s.pl:Int)] ts (0,0)):=(by rw[ax];exact ziF _ _ _ rfl);rw[az.out,an.out]at ax;rw[←ax];have j:=Z.out.here;clear ax g0 g1 g2 z0 z1 z2 bg bB bl bU bO bQ d0 d1 d2 d3 P aX;generalize wr.heap.size=e18 at F V⊢;have k0:=zBk F 0;have k1:=zBk F 1;have k2:=zBk F 2;have k3:=zBk F 3;have g0:=zBk j 0;have g1:=zBk j 1;have g2:=zBk j 2;have z0:=zBn j 0;have z1:=zBn j 1;have z2:=zBn j 2;simp[csG]at k0 k1 k2 k3 g0 g1 g2;rw[az.out]at k2;have cc:=Hid.mk' j;clear j F;have c8:k≠e18:=(by omega);have cT:e18≠k:=(by omega);have cO:prog.follows .mixedOrders=true:=(by kernel_rfl);go_big_region_o;go_wp2;go_step3;obtain⟨ae,rfl⟩:=cj.out;rw[zXw,←JH.out,←az.out];refine⟨g,by omega,C,⟨(s.g,s.st),l,m.longest,s.pl+1,I⟩,b9,bm,k,ga,oa,some ⟨gw,0,none⟩,la,oc,yc,lc,⟨?_,hr.out,⟨ad,ce⟩,Nat.le_refl _,zd9P aC.out ae⟩,exU _ _ rfl⟩;have cq:=Z.out.ord;have kp:Kept [k] W1 (((W1.setCell ⟨k,0,none⟩ (.int .u64 s.g.1)).setCell ⟨k,1,none⟩ (.int .u64 s.g.2)).setCell ⟨k,2,none⟩ (E s.st)).drew:=((((Kept.refl _ W1).setCell (p:=⟨k,0,none⟩) (Or.inl (by simp)) _).setCell (p:=⟨k,1,none⟩) (Or.inl (by simp)) _).setCell (p:=⟨k,2,none⟩) (Or.inl (by simp)) _).drew;have bL:=Z.out.way.lt gw rfl;have bo:=Z.out.way;obtain⟨sN,a7,aV⟩:=Z.out.seen;obtain⟨f1,f2,f3,f4,f5⟩:=Z.out.wf;dsimp only at bo f1 f2 f3 f4 f5;rw[ae]at f4 f5;have f6:=f5 s (by simp);simp only [zJ,List.length_singleton]at f4;rw[ae,zJ,List.flatMap_append]at bo;refine Z.out.turn (S:=[k]) kp (fun g hg=>Or.inr (Or.inl (by simpa using hg))) rfl ⟨sN,a7.same _ _ _ (kp.block bm (by omega) (by simp;omega)),aV⟩ (set3 cc.out _ _ _) (owns_same (zH5 bo (z74 (fun _=>rfl) l)) (fun g hg=>by have e:gw=g:=Option.some.inj hg;exact kp.block g (by omega) (by simp;omega))) Z.out.dis ⟨f6.1,f6.2.1,f6.2.2,by show l.length+_≤_;omega,fun x hx=>f5 x (by simp[hx])⟩
end Go.Proofs.YtoeoinpaidhmcaaGreatDoor.srch
