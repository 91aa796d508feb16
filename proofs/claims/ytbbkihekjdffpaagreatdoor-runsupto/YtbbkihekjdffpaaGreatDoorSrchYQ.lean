/- One text. -/
import Derived.Test.YtbbkihekjdffpaaGreatDoorSrchTU
import Derived.WalkMore
namespace Go.Proofs.YtbbkihekjdffpaaGreatDoor.srch
open Tryz
open Go.RowKit Go.Maps
open Go.WideMaps (KeyLaw)
def csQ (g:Gr)(s:List UInt8):List Value:=[.int .u64 g.1,.int .u64 g.2,.string ⟨s.toArray⟩]
def wfQ (s:List UInt8):Prop:=s.length≤22000000
def LQ (b:Int)(m:Mch (List UInt8)):Prop:=m.here.2.length≤22*(1000000-b.toNat)∧∀s∈m.way,s.st.length≤22*(1000000-b.toNat)
theorem LQ.less {b b':Int}{m:Mch (List UInt8)}(h:LQ b m)(hb:b'≤b):LQ b' m:=⟨by have:=h.1;omega,fun s hs=>by have:=h.2 s hs;omega⟩
theorem zAG:KeyLaw prog 206:=deep_law_laid zCF (m:=3) (by omega) (of_decide_eq_true (by kernel_rfl)) (by kernel_rfl) (by rw[underlying206])
theorem zni (g:Gr)(s:List UInt8)(hg:wfG g)(hs:wfQ s):∃kl,keyOf prog 206 (.agg #[.int .u64 g.1,.int .u64 g.2,.string ⟨s.toArray⟩])=some kl:=by
 have h1:=zA0 hg.1;have h2:=zA0 hg.2;have h3:(⟨s.toArray⟩:ByteArray).size≤maxLen:=by
  have h:s.length≤22000000:=hs;show s.toArray.size≤_;rw[List.size_toArray];unfold maxLen;omega
 have e1:prog.keyType 206=true:=by kernel_rfl
 have e2:prog.cellsOf 206=3:=by kernel_rfl
 have e3:prog.cellsOf 161=2:=by kernel_rfl
 have e4:prog.cellsOf 152=1:=by kernel_rfl
 have e5:prog.cellsOf 9=1:=by kernel_rfl
 obtain⟨d,hd⟩:∃d,prog.types.size+1=d+3:=⟨prog.types.size-2,by have:10≤prog.types.size:=of_decide_eq_true (by kernel_rfl);omega⟩;unfold keyOf;rw[underlying206,hd];simp only [e1,Value.formed,underlying206,e2,Bool.true_and];simp[show List.range 2=[0,1]from rfl,Program.keyLits,underlying206,underlying161,underlying152,underlying9,e2,e3,e4,e5,h1,h2,h3,Value.cells]
def PJQ (w:World)(part:List OpV)(pa:Option Addr)(pc:Nat)(r:Out)(l n:Nat)(a:Act)(W:World):Prop:=
 ∃(b:Int) (m:Mch (List UInt8)) (b9 bm b11 ga:Nat) (oa wa la:Option Addr) (oc yc lc:Nat),(PM 206 212 3 csQ wfQ w w.heap.size (w.heap.size+1) b9 bm b11 ga oa (ordO part) b m wa la yc lc W∧srun quDo (ordO part) n b (l==0) m=some r∧(-9223372036854775808≤b∧b≤1000000)∧l≤1∧LQ b m)∧
  ∃u:Nat→Value,a=⟨#[.agg #[],.slice pa part.length pc,.int .i64 b,.pointer (some ⟨w.heap.size,0,none⟩),undef,undef,.pointer (some ⟨w.heap.size+1,0,none⟩),.slice oa part.length oc,.slice (some ⟨ga,0,none⟩) part.length part.length,.pointer (some ⟨b9,0,none⟩),.map (some bm),.pointer (some ⟨b11,0,none⟩),.slice wa m.way.length yc,.slice la m.longest.length lc,.int .i64 (m.place:Int),u 15,u 16,u 17,u 18,u 19,u 20,u 21,u 22,u 23,u 24,u 25,u 26,u 27,u 28,u 29,u 30,u 31,u 32,u 33,u 34,u 35,u 36,u 37,u 38,u 39,u 40,u 41,u 42,u 43,u 44,u 45,u 46,u 47,u 48,u 49,u 50,u 51,u 52,u 53,u 54,u 55,u 56,u 57,u 58,u 59,u 60,u 61,u 62,u 63,u 64,u 65,u 66,u 67,u 68,u 69,u 70,u 71,u 72,u 73,u 74,u 75,u 76,u 77,u 78,u 79,u 80,u 81,u 82,u 83,u 84,u 85,u 86,u 87,u 88,u 89,u 90,u 91,u 92,u 93,u 94,u 95,u 96,u 97,u 98,u 99,u 100,u 101,u 102,u 103,u 104,u 105,u 106,u 107,u 108,u 109,u 110,u 111,u 112,u 113,u 114,u 115,u 116,u 117,u 118,u 119,u 120,u 121,u 122,u 123,u 124,u 125,u 126,u 127,u 128,u 129,u 130,u 131,u 132,u 133,u 134,u 135,u 136,u 137,u 138,u 139],[]⟩
noncomputable def z3x:Code:=match Tryz.f51.body with|some (.seq _ (.scope c))=>c|_=>.skip
def QQ (w:World)(r:Out):Exit→Act→World→Prop:=bodyPost prog Tryz.f51 fun e w'=>∃a c,e=.returned (.agg #[.int .i64 (r.verdict:Int),.slice a r.order.length c,.int .i64 r.left])∧OAt w' a r.order∧Below w.heap.size w w'∧∀g,a=some ⟨g,0,none⟩→r.order≠[]→w.heap.size≤g
theorem zhj (tm:Array Value)(W:World)(b:Nat)(x y z:Value)(h6:tm[6]?.getD undef=.pointer (some ⟨b,0,none⟩))(hb:W.heap[b]?=some (.cells #[x,y,z] 104 (0,0))):
 (results Tryz.f51 tm).run prog W=.ok (.agg #[x,y,z]) W:=by
 have c0:W.cell? ⟨b,0,none⟩=some x:=by rw[zBk hb];rfl
 have c1:W.cell? ⟨b,1,none⟩=some y:=by rw[zBk hb];rfl
 have c2:W.cell? ⟨b,2,none⟩=some z:=by rw[zBk hb];rfl
 simp[results,results51,go_sem,h6,c0,c1,c2]
theorem zeI (g:Gr)(s:List UInt8)(g':Gr)(s':List UInt8)(h:csQ g s=csQ g' s'):g=g'∧s=s':=by
 simp[csQ]at h;exact⟨Prod.ext h.1 h.2.1,h.2.2⟩
theorem zbuZ (st:List UInt8)(o:OpV)(ha: -9223372036854775808≤o.arg∧o.arg≤9223372036854775807):(quDo st o).1.length≤st.length+22:=by
 have h1:=Lib.itoa_length_le o.arg ha.1 ha.2;have h2:(Lib.cut st [44]).2.1.length≤st.length:=by
  unfold Lib.cut;split<;>simp<;>omega
 unfold quDo;split
 ·split
  ·dsimp only;omega
  ·simp only [zI,List.length_singleton];omega
 ·split
  ·split
   ·dsimp only;omega
   ·dsimp only;omega
  ·dsimp only;omega
theorem z1m {b:Int}{m:Mch (List UInt8)}{g:Gr}{s:List UInt8}{l:List OpV}{p q:Nat}{sn:List (Gr×List UInt8)}(h:LQ b m)(hs:s.length≤m.here.2.length+22)(hb:0<b∧b≤1000000):LQ (b-1) ⟨(g,s),m.way++[⟨m.here.1,m.here.2,p⟩],l,q,sn⟩:=by
 obtain⟨h1,h2⟩:=h;refine⟨by dsimp only;omega,fun x hx=>?_⟩;rcases List.mem_append.1 hx with hx|hx
 ·have:=h2 x hx;omega
 ·rw[List.mem_singleton]at hx;subst hx;dsimp only;omega
theorem z5W {b:Int}{m:Mch (List UInt8)}{s:Stp (List UInt8)}{l:List (Stp (List UInt8))}{o:List OpV}{q:Nat}{sn:List (Gr×List UInt8)}(h:LQ b m)(hl:m.way=l++[s]):LQ b ⟨(s.g,s.st),l,o,q,sn⟩:=
 ⟨h.2 s (by rw[hl];simp),fun x hx=>h.2 x (by rw[hl];simp[hx])⟩
theorem zUE:(prog.info? 212).map (fun i=>(i.zero,i.size,i.bytes))=some (some (.agg #[.int .u64 0,.int .u64 0,.string ⟨#[]⟩,.int .i64 0]),4,40):=by kernel_rfl
theorem zvHK (W:World)(base:Nat)(a:Option Addr)(n c:Nat)(xs:List Value)(g0 g1:Int)(s0:List UInt8)(p0:Int)(h:W.ownsRow base 212 4 (.slice a n c) n xs)(hn:n≤3000000)(hb:base≤W.heap.size):ApR 212 207 4 W base a n c xs [.int .u64 g0,.int .u64 g1,.string ⟨s0.toArray⟩,.int .i64 p0]:=zUq zUE underlying207 rfl (by decide) (by decide) rfl rfl h (by omega) hb
set_option maxHeartbeats 4000000 in
set_option maxRecDepth 1000000 in
theorem backQ_any (w:World)(part:List OpV)(pa:Option Addr)(pc:Nat)(r:Out)(hl:part.length≤128)(hdo:(∀o,o∈ordO part→ -9223372036854775808≤o.arg∧o.arg≤9223372036854775807)∧Glob w∧Pow w)(N n:Nat)(a:Act)(W:World)(hN:n≤N)(hJ:PJQ w part pa pc r 1 n a W):
 ∃tail,findLabel z3x 1=some (.seq .skip tail)∧tail.wp prog (zLM (fun l a' w'=>∃n',n'<N∧PJQ w part pa pc r l n' a' w') (QQ w r)) a W:=by
 obtain⟨b,m,b9,bm,b11,ga,oa,wa,la,oc,yc,lc,⟨hP,hS,hb,_,hQ0⟩,u,rfl⟩:=hJ;refine⟨_,rfl,?_⟩;have hlen:=zYV part;have PH:Hid _:=hP;have QH0:=Hid.mk' hQ0;have SH:Hid _:=hS;have LH:Hid _:=hlen;have DH:Hid _:=hdo;clear hP hS hlen hdo hQ0;generalize hJK:(fun(l:Nat) (a':Act) (w':World)=>∃n',n'<N∧PJQ w part pa pc r l n' a' w')=JK;have JH:Hid _:=hJK;clear hJK;generalize hQK:QQ w r=QK;have QH:Hid _:=hQK;clear hQK;go_wp2;go_loopg [2,12,14] n (fun gk s2 s12 s14 wr=>∃(b':Int) (p:Nat) (sn:List (Gr×List UInt8)),s2=.int .i64 b'∧s12=.slice wa m.way.length yc∧s14=.int .i64 (p:Int)∧b'≤1000000∧ -9223372036854775808≤b'∧gk≤n∧Hid (LQ b' m)∧Hid (PM 206 212 3 csQ wfQ w w.heap.size (w.heap.size+1) b9 bm b11 ga oa (ordO part) b' ⟨m.here,m.way,m.longest,p,sn⟩ wa la yc lc wr)∧Hid (srun quDo (ordO part) gk b' false ⟨m.here,m.way,m.longest,p,sn⟩=some r))
 case atStart=>exact⟨b,m.place,m.seen,rfl,rfl,rfl,hb.2,hb.1,Nat.le_refl _,QH0,PH,SH⟩
 case round=>
  clear PH SH hb QH0;obtain⟨b',p,sn,rfl,rfl,rfl,hb1,hb2,hgn,LQ1,P1,S1⟩:=hrel;obtain⟨g,rfl⟩:∃g,gk=g+1:=by
   cases gk with
   |zero=>exact absurd S1.out (by simp[srun])
   |succ g=>exact⟨g,rfl⟩
  obtain⟨x6,y6,z6,hB6⟩:=P1.out.res;have c60:=zBk hB6 0;have c61:=zBk hB6 1;have c62:=zBk hB6 2;have f60:=zBn hB6 0;have f61:=zBn hB6 1;have f62:=zBn hB6 2;simp at c60 c61 c62;have HB6:=Hid.mk' hB6;clear hB6;have hmwb:m.way.length+b'.toNat≤1000000:=P1.out.wf.2.2.2.1;have hmw:m.way.length≤1000000:=by have h:m.way.length+b'.toNat≤1000000:=P1.out.wf.2.2.2.1;omega
  by_cases hp:p<part.length
  ·have hpz:(p:Int)<(part.length:Int):=(by omega);obtain⟨o,ho⟩:∃o,(ordO part)[p]?=some o:=⟨_,zC (by rw[LH.out];exact hp)⟩;by_cases hb0:b'≤0
   ·have hr:Hid (r=⟨0,[],0⟩):=by
     have h:=S1.out;unfold srun at h;dsimp only at h;rw[ho]at h;dsimp only at h;rw[if_pos hb0]at h;injection h with h;exact h.symm
    clear S1 ho;go_wp2
    (try simp only [Exit.inBlock,Exit.then])
    rw[zcM,←QH.out];unfold QQ;have ho:=out3 (Nat.le_succ _) P1.out.below none [] (fun h=>absurd rfl h) (fun g h=>by cases h) (.int .i64 0) (.slice none 0 0) (.int .i64 0);refine bodyPost_ret (zhj _ _ (w.heap.size+1) _ _ _ (by simp) (set3 HB6.out _ _ _)) rfl ?_;exact⟨none,0,by rw[hr.out];rfl,by rw[hr.out];exact ho.1,ho.2,(fun g h=>by cases h)⟩
   ·have hlk:Hid (srun quDo (ordO part) g (b'-1) (look quDo (ordO part) o ⟨m.here,m.way,m.longest,p,sn⟩).1 (look quDo (ordO part) o ⟨m.here,m.way,m.longest,p,sn⟩).2=some r):=by
     have h:=S1.out;unfold srun at h;dsimp only at h;rw[ho]at h;dsimp only at h;rw[if_neg hb0]at h;exact h
    clear S1;have hb0':0<b':=(by omega);have hwb:IntKind.i64.wrap (b'-1)=b'-1:=(by rw[IntKind.wrap_i64];omega);have hcall:zre (ordO part) p=o.call:=(by unfold zre;rw[ho];rfl);obtain⟨ac,hac,hgr⟩:=P1.out.ahd;have ha0:=hgr.at0 p (by rw[LH.out];exact hp);have ha1:=hgr.at1 p (by rw[LH.out];exact hp);rw[hcall]at ha0 ha1;obtain⟨AH,hAH⟩:∃AH,AH=ahG o.call (ordO part) 0 (0,0):=⟨_,rfl⟩;rw[←hAH]at ha0 ha1;have a0:wr.cell? ⟨ga,p*2,none⟩=some (.int .u64 AH.1):=(zBk hac _).trans ha0;have a1:wr.cell? ⟨ga,p*2+1,none⟩=some (.int .u64 AH.2):=(zBk hac _).trans ha1;have hga:=zBq hac;have hB11:=P1.out.here;have hb11:=zBq hB11;have g0:wr.cell? ⟨b11,0,none⟩=some (.int .u64 m.here.1.1):=zBk hB11 0;have g1:wr.cell? ⟨b11,1,none⟩=some (.int .u64 m.here.1.2):=zBk hB11 1;have g0p:=zLF (x:=⟨b11,0,none⟩) hb11 g0;have g1p:=zLF (x:=⟨b11,1,none⟩) hb11 g1;have a0p:=zLF (x:=⟨ga,p*2,none⟩) hga a0;have a1p:=zLF (x:=⟨ga,p*2+1,none⟩) hga a1;have hhas:=fun W=>has_any m.here.1 p (by omega) W;have hwit:=fun W=>zlR AH m.here.1 W;unfold grAg at hhas hwit;have HAH:Hid _:=hAH;have HO:Hid _:=ho;have hmix:prog.follows .mixedOrders=true:=(by kernel_rfl);clear hAH ho hcall hac hgr ha0 ha1 hB11 c60 c61 c62 f60 f61 f62 HB6;have hpl:Hid (p+1≤(ordO part).length):=(by show p+1≤_;rw[LH.out];exact hp);cases hA:gHas m.here.1 p with
    |true=>
      have hL:Hid (srun quDo (ordO part) g (b'-1) false ⟨m.here,m.way,m.longest,p+1,sn⟩=some r):=by
       have h:=hlk.out;unfold look at h;dsimp only at h;rw[hA]at h;exact h
      simp only [hA]at hhas;clear hlk hA;go_wp2_with fail;refine zhU hmix (by kernel_rfl) ?_
      repeat (refine z40z (fun K hK=>?_);go_simp;first|(refine hK _ ?_;clear hK K)|(apply Exists.intro;refine⟨fun _=>?_,hK _ ?_⟩;(first|(go_at_call 82;refine zfm (hhas _))|(go_at_call 80;refine zfm (hwit _)));clear hK K))
      refine zy7 ?_;intro _ hw';obtain⟨⟨w2,hb2⟩,rfl⟩:=hw';go_wp2;go_roundg g
      case measure=>omega
      case rel=>exact⟨b'-1,p+1,sn,rfl,rfl,by go_num,by omega,by omega,by omega,LQ1.out.less (by omega),(P1.out.on hb2).at_ (b'-1) (by omega) (p+1) hpl.out,hL⟩
    |false=>
      simp only [hA]at hhas;cases hB:zJn AH m.here.1 with
      |false=>
        have hL:Hid (srun quDo (ordO part) g (b'-1) false ⟨m.here,m.way,m.longest,p+1,sn⟩=some r):=by
         have h:=hlk.out;unfold look at h;dsimp only at h;rw[←HAH.out,hA,hB]at h;exact h
        simp only [hB]at hwit;clear hlk hA hB;go_wp2_with fail;refine zhU hmix (by kernel_rfl) ?_
        repeat (refine z40z (fun K hK=>?_);go_simp;first|(refine hK _ ?_;clear hK K)|(apply Exists.intro;refine⟨fun _=>?_,hK _ ?_⟩;(first|(go_at_call 82;refine zfm (hhas _))|(go_at_call 80;refine zfm (hwit _)));clear hK K))
        refine zy7 ?_;intro _ hw';obtain⟨⟨w2,hb2⟩,rfl⟩:=hw';go_wp2;go_roundg g
        case measure=>omega
        case rel=>exact⟨b'-1,p+1,sn,rfl,rfl,by go_num,by omega,by omega,by omega,LQ1.out.less (by omega),(P1.out.on hb2).at_ (b'-1) (by omega) (p+1) hpl.out,hL⟩
      |true=>
        have hlk2:=hlk.out;unfold look at hlk2;dsimp only at hlk2;rw[←HAH.out,hA,hB,if_neg (by simp:¬((false||!true)=true))]at hlk2;replace hlk2:=Hid.mk' hlk2;simp only [hB]at hwit;clear hlk hA hB;go_wp2_with fail;refine zhU hmix (by kernel_rfl) ?_
        repeat (refine z40z (fun K hK=>?_);go_simp;first|(refine hK _ ?_;clear hK K)|(apply Exists.intro;refine⟨fun _=>?_,hK _ ?_⟩;(first|(go_at_call 82;refine zfm (hhas _))|(go_at_call 80;refine zfm (hwit _)));clear hK K))
        refine zy7 ?_;intro _ hw';obtain⟨⟨w2,hb2⟩,rfl⟩:=hw';obtain⟨w2,hw2,hb2⟩:∃w2,w2=_∧Below wr.heap.size wr w2:=⟨_,rfl,hb2⟩;rw[←hw2];clear hw2;have P2:Hid _:=P1.out.on hb2;have harg:=DH.out.1 o (List.mem_of_getElem? HO.out);have LQ2:=Hid.mk' (zbuZ m.here.2 o harg);have hdoo:wfQ (quDo m.here.2 o).1:=(by have h1:=LQ1.out.1;have h2:=LQ2.out;show _≤_;omega);have HDO:Hid _:=hdoo;clear P1 hdoo g0 g1 a0 a1 g0p g1p a0p a1p hhas hwit HAH hb2 hb11 hga;obtain⟨go,hgo,hgo2,hrow⟩:=P2.out.row.1 (by intro h;rw[h]at HO;simp at HO;exact absurd HO.out (by simp));subst hgo;have hcell:∀i u,(opvCells o)[i]?=some u→w2.cell? ⟨go,p*10+i,none⟩=some u:=by
         intro i u hu;obtain⟨hlt,hoo⟩:=zB HO.out;have hi:i<10:=(by have:=(zB hu).1;exact this);have:=zvc (ordO part) p hlt i hi;rw[hoo]at this;exact hrow _ u (this.trans hu)
        have hB11:=P2.out.here;have hb11:=zBq hB11;have g2:w2.cell? ⟨b11,2,none⟩=some (.string ⟨m.here.2.toArray⟩):=zBk hB11 2;have hS0:(fun w'=>w'.cell? ⟨b11,2,none⟩=some (.string ⟨m.here.2.toArray⟩)∧w'.cell? ⟨go,p*10,none⟩=some (.int .i64 o.id)∧w'.cell? ⟨go,p*10+1,none⟩=some (.int .i64 o.cl)∧w'.cell? ⟨go,p*10+2,none⟩=some (.string ⟨o.name.toArray⟩)∧w'.cell? ⟨go,p*10+3,none⟩=some (.string ⟨o.key.toArray⟩)∧w'.cell? ⟨go,p*10+4,none⟩=some (.int .i64 o.arg)∧w'.cell? ⟨go,p*10+5,none⟩=some (.int .i64 o.exp)∧w'.cell? ⟨go,p*10+6,none⟩=some (.int .i64 o.call)∧w'.cell? ⟨go,p*10+7,none⟩=some (.int .i64 o.ret)∧w'.cell? ⟨go,p*10+8,none⟩=some (.int .i64 o.vk)∧w'.cell? ⟨go,p*10+9,none⟩=some (.int .i64 o.vn)) w2:=⟨g2,hcell 0 _ rfl,hcell 1 _ rfl,hcell 2 _ rfl,hcell 3 _ rfl,hcell 4 _ rfl,hcell 5 _ rfl,hcell 6 _ rfl,hcell 7 _ rfl,hcell 8 _ rfl,hcell 9 _ rfl⟩;have hSb:∀w3,Below w2.heap.size w2 w3→(fun w'=>w'.cell? ⟨b11,2,none⟩=some (.string ⟨m.here.2.toArray⟩)∧w'.cell? ⟨go,p*10,none⟩=some (.int .i64 o.id)∧w'.cell? ⟨go,p*10+1,none⟩=some (.int .i64 o.cl)∧w'.cell? ⟨go,p*10+2,none⟩=some (.string ⟨o.name.toArray⟩)∧w'.cell? ⟨go,p*10+3,none⟩=some (.string ⟨o.key.toArray⟩)∧w'.cell? ⟨go,p*10+4,none⟩=some (.int .i64 o.arg)∧w'.cell? ⟨go,p*10+5,none⟩=some (.int .i64 o.exp)∧w'.cell? ⟨go,p*10+6,none⟩=some (.int .i64 o.call)∧w'.cell? ⟨go,p*10+7,none⟩=some (.int .i64 o.ret)∧w'.cell? ⟨go,p*10+8,none⟩=some (.int .i64 o.vk)∧w'.cell? ⟨go,p*10+9,none⟩=some (.int .i64 o.vn)) w3:=fun w3 h=>⟨(h.cell (p:=⟨b11,2,none⟩) hb11).trans hS0.1,(h.cell (p:=⟨go,p*10,none⟩) hgo2).trans hS0.2.1,(h.cell (p:=⟨go,p*10+1,none⟩) hgo2).trans hS0.2.2.1,(h.cell (p:=⟨go,p*10+2,none⟩) hgo2).trans hS0.2.2.2.1,(h.cell (p:=⟨go,p*10+3,none⟩) hgo2).trans hS0.2.2.2.2.1,(h.cell (p:=⟨go,p*10+4,none⟩) hgo2).trans hS0.2.2.2.2.2.1,(h.cell (p:=⟨go,p*10+5,none⟩) hgo2).trans hS0.2.2.2.2.2.2.1,(h.cell (p:=⟨go,p*10+6,none⟩) hgo2).trans hS0.2.2.2.2.2.2.2.1,(h.cell (p:=⟨go,p*10+7,none⟩) hgo2).trans hS0.2.2.2.2.2.2.2.2.1,(h.cell (p:=⟨go,p*10+8,none⟩) hgo2).trans hS0.2.2.2.2.2.2.2.2.2.1,(h.cell (p:=⟨go,p*10+9,none⟩) hgo2).trans hS0.2.2.2.2.2.2.2.2.2.2⟩;have HSB:=Hid.mk' hSb;have HS0:=hS0;obtain⟨q2,o0,o1,o2,o3,o4,o5,o6,o7,o8,o9⟩:=hS0;have HBD:=Hid.mk' (show Below w2.heap.size w2 w2.drew from(zD).drew);have hdo:=fun W (hW:Below w2.heap.size w2 W)=>zhS m.here.2 o W (by have h1:=LQ1.out.1;omega) harg (DH.out.2.1.below ((P2.out.below.trans (hW.mono P2.out.below.size)).mono DH.out.2.1.errs.lt)) (DH.out.2.2.stays (P2.out.below.trans (hW.mono P2.out.below.size)));obtain⟨R,hR⟩:∃R,R=quDo m.here.2 o:=⟨_,rfl⟩;rw[←hR]at hdo LQ2;have HR:Hid _:=hR;unfold opAg vAg at hdo;clear hSb hcell hrow hB11 g2 hR;go_wp2_with fail;go_cut [15,16]from 300 (fun s15 s16 wc=>s15=.string ⟨R.1.toArray⟩∧∃e:Nat,s16=.pointer (some ⟨e,0,none⟩)∧w2.heap.size≤e∧wc.heap[e]?=some (.cells #[.int .i64 R.2.1,.int .i64 R.2.2] 72 (0,0))∧Below w2.heap.size w2 wc)
        case first=>
         first|go_region_held3 (fun w'=>w'.cell? ⟨b11,2,none⟩=some (.string ⟨m.here.2.toArray⟩)∧w'.cell? ⟨go,p*10,none⟩=some (.int .i64 o.id)∧w'.cell? ⟨go,p*10+1,none⟩=some (.int .i64 o.cl)∧w'.cell? ⟨go,p*10+2,none⟩=some (.string ⟨o.name.toArray⟩)∧w'.cell? ⟨go,p*10+3,none⟩=some (.string ⟨o.key.toArray⟩)∧w'.cell? ⟨go,p*10+4,none⟩=some (.int .i64 o.arg)∧w'.cell? ⟨go,p*10+5,none⟩=some (.int .i64 o.exp)∧w'.cell? ⟨go,p*10+6,none⟩=some (.int .i64 o.call)∧w'.cell? ⟨go,p*10+7,none⟩=some (.int .i64 o.ret)∧w'.cell? ⟨go,p*10+8,none⟩=some (.int .i64 o.vk)∧w'.cell? ⟨go,p*10+9,none⟩=some (.int .i64 o.vn)) (first|(with_reducible exact hS3)|(with_reducible exact HSB.out _ (HB3.out.alloc HB3.out.size _))|(with_reducible exact HSB.out _ (HBD.out.alloc zG _))|(with_reducible exact HSB.out _ (((HB3.out.alloc HB3.out.size _).setCell (p:=⟨_,0,none⟩) HB3.out.size _).setCell (p:=⟨_,1,none⟩) HB3.out.size _))|(with_reducible exact HSB.out _ ((HB3.out.setCell (p:=⟨_,0,none⟩) zG _).setCell (p:=⟨_,1,none⟩) zG _))|go_keep) (first
          | (go_at_call 235;refine(hdo _ (HBD.out.alloc zG _)).mono ?_;rintro e w3 ⟨rfl,hb30⟩;have hblk3:=zKZ (w:=w2.drew) hb30;have hbA:=zEL HBD.out hb30;have HB3:=Hid.mk' hbA;have hS3:=HSB.out w3 hbA;have HK3:=Hid.mk' hblk3;have hz0:w3.cell? ⟨w2.heap.size,0,none⟩=some (.int .i64 0):=zBk hblk3 0;have hz1:w3.cell? ⟨w2.heap.size,1,none⟩=some (.int .i64 0):=zBk hblk3 1;have hf0:w3.frozen? ⟨w2.heap.size,0,none⟩=false:=zBn hblk3 0;have hf1:w3.frozen? ⟨w2.heap.size,1,none⟩=false:=zBn hblk3 1;clear hblk3)
          | (go_at_call 235;refine(hdo _ HBD.out).mono ?_;rintro e w3 ⟨rfl,hb30⟩;have hb3:Below w2.heap.size w2 w3:=HBD.out.trans hb30;have HB3:=Hid.mk' hb3;have hS3:=HSB.out w3 hb3))|fail
         ·go_wp2;go_meet
          case rel=>exact⟨rfl,w3.heap.size,rfl,HB3.out.size,ziF _ _ _ rfl,HB3.out.alloc HB3.out.size _⟩
         ·go_wp2;go_meet
          case rel=>exact⟨rfl,w2.heap.size,rfl,Nat.le_refl _,vset HK3.out _ _,(HB3.out.setCell (p:=⟨w2.heap.size,0,none⟩) zG _).setCell (p:=⟨w2.heap.size,1,none⟩) zG _⟩
        case rest=>
         obtain⟨rfl,e16,rfl,he16,hblkV,hbc⟩:=hcut;have P3:Hid _:=P2.out.on hbc;have hSc:=HSB.out wc hbc;have hltV:=zBq hblkV;have hgo3:=zH hgo2 hbc.size;have v0:wc.cell? ⟨e16,0,none⟩=some (.int .i64 R.2.1):=zBk hblkV 0;have v1:wc.cell? ⟨e16,1,none⟩=some (.int .i64 R.2.2):=zBk hblkV 1;have v0p:=zLF (x:=⟨e16,0,none⟩) hltV v0;have v1p:=zLF (x:=⟨e16,1,none⟩) hltV v1;have o0p:=zLF (x:=⟨go,p*10,none⟩) hgo3 hSc.2.1;have o1p:=zLF (x:=⟨go,p*10+1,none⟩) hgo3 hSc.2.2.1;have o2p:=zLF (x:=⟨go,p*10+2,none⟩) hgo3 hSc.2.2.2.1;have o3p:=zLF (x:=⟨go,p*10+3,none⟩) hgo3 hSc.2.2.2.2.1;have o4p:=zLF (x:=⟨go,p*10+4,none⟩) hgo3 hSc.2.2.2.2.2.1;have o5p:=zLF (x:=⟨go,p*10+5,none⟩) hgo3 hSc.2.2.2.2.2.2.1;have o6p:=zLF (x:=⟨go,p*10+6,none⟩) hgo3 hSc.2.2.2.2.2.2.2.1;have o7p:=zLF (x:=⟨go,p*10+7,none⟩) hgo3 hSc.2.2.2.2.2.2.2.2.1;have o8p:=zLF (x:=⟨go,p*10+8,none⟩) hgo3 hSc.2.2.2.2.2.2.2.2.2.1;have o9p:=zLF (x:=⟨go,p*10+9,none⟩) hgo3 hSc.2.2.2.2.2.2.2.2.2.2;have hpend:=fun W=>znl o W;unfold opAg at hpend;clear HS0 HSB HBD hdo P2 v0 v1 hSc q2 o0 o1 o2 o3 o4 o5 o6 o7 o8 o9 he16 hgo2 hblkV hbc;obtain⟨bq,hbq⟩:∃bq:Bool,bq=decide (o.ret≠0∧(R.2.1,R.2.2)≠(o.vk,o.vn)):=⟨_,rfl⟩;have HBQ:Hid _:=hbq;clear hbq;go_upto_region 20 with fail;go_cut [94]from 300 (fun s wd=>s=.bool bq∧Below wc.heap.size wc wd)
         case first=>
          by_cases hret:o.ret=0
          ·have hQ:Hid (bq=false):=(by show _=_;rw[HBQ.out];exact decide_eq_false (fun h=>h.1 hret));have hrb:(o.ret==0)=true:=(by simpa using hret);simp only [hrb]at hpend;clear hret;refine zhU hmix (by kernel_rfl) ?_
           repeat (refine z40z (fun K hK=>?_);go_simp;first|(refine hK _ ?_;clear hK K)|(apply Exists.intro;refine⟨fun _=>?_,hK _ ?_⟩;(go_at_call 83;refine zfm (hpend _));clear hK K))
           refine zy7 ?_;intro _ hw';obtain⟨⟨w4,hb4⟩,rfl⟩:=hw';go_wp2;go_meet
           case rel=>exact⟨by rw[hQ.out],hb4⟩
          ·have hrb:(o.ret==0)=false:=(by simpa using hret);simp only [hrb]at hpend;by_cases heq:(R.2.1,R.2.2)=(o.vk,o.vn)
           ·have hQ:Hid (bq=false):=(by show _=_;rw[HBQ.out];exact decide_eq_false (fun h=>h.2 heq));have hneq:∀W:World,(binOp .neq 72 (.agg #[.int .i64 R.2.1,.int .i64 R.2.2]) (.agg #[.int .i64 o.vk,.int .i64 o.vn])).run prog W=.ok (.bool false) W:=fun W=>(by rw[neqV,decide_eq_true ⟨(Prod.mk.inj heq).1,(Prod.mk.inj heq).2⟩];rfl);clear hret heq;refine zhU hmix (by kernel_rfl) ?_
            repeat (refine z40z (fun K hK=>?_);go_simp;first|(refine hK _ ?_;clear hK K)|(apply Exists.intro;refine⟨fun _=>?_,hK _ ?_⟩;(go_at_call 83;refine zfm (hpend _));clear hK K))
            refine zy7 ?_;intro _ hw';obtain⟨⟨w4,hb4⟩,rfl⟩:=hw';go_wp2;go_meet
            case rel=>exact⟨by rw[hQ.out],hb4⟩
           ·have hQ:Hid (bq=true):=(by show _=_;rw[HBQ.out];exact decide_eq_true ⟨hret,heq⟩);have hneq:∀W:World,(binOp .neq 72 (.agg #[.int .i64 R.2.1,.int .i64 R.2.2]) (.agg #[.int .i64 o.vk,.int .i64 o.vn])).run prog W=.ok (.bool true) W:=fun W=>(by rw[neqV,decide_eq_false (fun h=>heq (Prod.ext h.1 h.2))];rfl);clear hret heq;refine zhU hmix (by kernel_rfl) ?_
            repeat (refine z40z (fun K hK=>?_);go_simp;first|(refine hK _ ?_;clear hK K)|(apply Exists.intro;refine⟨fun _=>?_,hK _ ?_⟩;(go_at_call 83;refine zfm (hpend _));clear hK K))
            refine zy7 ?_;intro _ hw';obtain⟨⟨w4,hb4⟩,rfl⟩:=hw';go_wp2;go_meet
            case rel=>exact⟨by rw[hQ.out],hb4⟩
         case rest=>
          obtain⟨rfl,hbd⟩:=hcut;have P4:Hid _:=P3.out.on hbd;clear P3 hpend v0p v1p o0p o1p o2p o3p o4p o5p o6p o7p o8p o9p hltV hgo3 hbd;cases bq with
          |true=>
            have hL:Hid (srun quDo (ordO part) g (b'-1) false ⟨m.here,m.way,m.longest,p+1,sn⟩=some r):=by
             have h:=hlk2.out;rw[←HR.out,if_pos (of_decide_eq_true HBQ.out.symm)]at h;exact h
            clear hlk2;go_wp2;go_roundg g
            case measure=>omega
            case rel=>exact⟨b'-1,p+1,sn,rfl,rfl,by go_num,by omega,by omega,by omega,LQ1.out.less (by omega),P4.out.at_ (b'-1) (by omega) (p+1) hpl.out,hL⟩
          |false=>
            have hlk3:=hlk2.out;rw[←HR.out,if_neg (of_decide_eq_false HBQ.out.symm)]at hlk3;replace hlk3:=Hid.mk' hlk3;clear hlk2 HBQ;have hB11:=P4.out.here;have hb11:=zBq hB11;have g0:wc.cell? ⟨b11,0,none⟩=some (.int .u64 m.here.1.1):=zBk hB11 0;have g1:wc.cell? ⟨b11,1,none⟩=some (.int .u64 m.here.1.2):=zBk hB11 1;have hwith:=fun W=>zxl m.here.1 p (by omega) W;unfold grAg at hwith;obtain⟨GW,hGW⟩:∃GW,GW=zdS m.here.1 p:=⟨_,rfl⟩;rw[←hGW]at hwith;have HGW:Hid _:=hGW;clear hGW hB11;go_wp2_with (go_at_call 84;refine(hwith _).mono ?_;rintro e w5 ⟨rfl,hb5⟩);obtain⟨W6,hW6⟩:∃W6,W6=w5.alloc (.cells #[.int .u64 GW.1,.int .u64 GW.2,.string ⟨R.1.toArray⟩] 206):=⟨_,rfl⟩;rw[←hW6];have hb6:Below wc.heap.size wc W6:=(by rw[hW6];exact hb5.alloc hb5.size _);have P6:Hid _:=P4.out.on hb6;have hblk:W6.heap[w5.heap.size]?=some (.cells #[.int .u64 GW.1,.int .u64 GW.2,.string ⟨R.1.toArray⟩] 206 (0,0)):=(by rw[hW6];exact ziF _ _ _ rfl);have he17:wc.heap.size≤w5.heap.size:=hb5.size;generalize w5.heap.size=e17 at hblk he17⊢;have ord:=P6.out.ord;have hne17:e17≠bm∧e17≠b11:=(by have:=P4.out.ord;omega);have hwfG:wfG GW:=(by rw[HGW.out];exact zgs P4.out.wf.1 p);have hwfR:wfQ R.1:=(by rw[HR.out];exact HDO.out);have hwlt:=Hid.mk' (show ∀g',(Value.slice wa m.way.length yc).ownBlock=some g'→g'<wc.heap.size from fun g' h=>(P4.out.way.lt g' h).2);clear hW6 hb5 hb6 g0 g1 hwith P4 hb11;obtain⟨kl,hkl⟩:=zni GW R.1 hwfG hwfR;obtain⟨sN,hs1,hs2⟩:=P6.out.seen;have hsp:=zKN 206 csQ wfQ zAG underlying204 zeI (hs1.same _ _ _ (W':=W6.drew) rfl) (by omega) (GW,R.1) hwfG hwfR hkl;dsimp only [csQ]at hsp;obtain⟨q,st,w7,w8,hqN,hq0,hl0,hE,hl1,hSt,hl3,hk7,hz7,hk8,hz8,hseen⟩:=hsp;have hE':(Instr.mapEntry 204 (.map (some bm)) (.agg #[.int .u64 GW.1,.int .u64 GW.2,.string ⟨R.1.toArray⟩])).run prog W6.drew=.ok (.tuple #[.int .i64 (q:Int),.int .i64 (st:Int)]) w7:=hE;have hSt':(Instr.entryStore 204 (.map (some bm)) (.int .i64 (st:Int)) (.int .i64 ((q:Int)+1))).run prog w7=.ok () w8:=hSt;have hlt17:=zBq hblk;have hblk7:w7.heap[e17]?=some (.cells #[.int .u64 GW.1,.int .u64 GW.2,.string ⟨R.1.toArray⟩] 206 (0,0)):=(hk7.block e17 hlt17 (by simp;omega)).trans hblk;have hblk8:w8.heap[e17]?=some (.cells #[.int .u64 GW.1,.int .u64 GW.2,.string ⟨R.1.toArray⟩] 206 (0,0)):=(hk8.block e17 hlt17 (by simp;omega)).trans hblk;have k0:W6.cell? ⟨e17,0,none⟩=some (.int .u64 GW.1):=zBk hblk 0;have k1:W6.cell? ⟨e17,1,none⟩=some (.int .u64 GW.2):=zBk hblk 1;have k2:W6.cell? ⟨e17,2,none⟩=some (.string ⟨R.1.toArray⟩):=zBk hblk 2;have l0:w7.cell? ⟨e17,0,none⟩=some (.int .u64 GW.1):=zBk hblk7 0;have l1:w7.cell? ⟨e17,1,none⟩=some (.int .u64 GW.2):=zBk hblk7 1;have l2:w7.cell? ⟨e17,2,none⟩=some (.string ⟨R.1.toArray⟩):=zBk hblk7 2;have n0:w8.cell? ⟨e17,0,none⟩=some (.int .u64 GW.1):=zBk hblk8 0;have n1:w8.cell? ⟨e17,1,none⟩=some (.int .u64 GW.2):=zBk hblk8 1;have n2:w8.cell? ⟨e17,2,none⟩=some (.string ⟨R.1.toArray⟩):=zBk hblk8 2;have hwq:IntKind.i64.wrap ((q:Int)+1)=(q:Int)+1:=(by rw[IntKind.wrap_i64];omega);have HK8:=Hid.mk' hk8;obtain⟨SN,hSN0,hSN1,hSNs⟩:∃SN,((GW,R.1)∈sn→SN=sn)∧((GW,R.1)∉sn→SN=(GW,R.1)::sn)∧SeenAt 206 csQ wfQ w8 bm (sN+1) SN:=⟨_,fun h=>if_pos h,fun h=>if_neg h,hseen⟩;have HSN:=Hid.mk' (And.intro hSNs hs2);have HN0:=Hid.mk' hSN0;have HN1:=Hid.mk' hSN1;have HQ0:=Hid.mk' hq0;have HB8:=Hid.mk' hblk8;clear hSN0 hSN1 hSNs hE hSt hkl hs1 hs2 hseen hq0 hk7 hk8 hblk hblk7 hblk8 hwfG hwfR;go_big_region_o;have kp8:Kept [bm] W6 w8:=⟨HK8.out.os,HK8.out.tape,HK8.out.output,HK8.out.size,HK8.out.block⟩;have hw8:W6.heap[b11]?=w8.heap[b11]?:=(kp8.block b11 (by omega) (by simp;omega)).symm;have hwy8:w8.ownsRow (b11+1) 212 4 (.slice wa m.way.length yc) m.way.length (m.way.flatMap (stpC csQ)):=zcc P6.out.way (fun g' hg'=>by have h9:=P6.out.way.lt g' hg';exact kp8.block g' h9.2 (by simp;omega));have P8:Hid (PM 206 212 3 csQ wfQ w w.heap.size (w.heap.size+1) b9 bm b11 ga (some ⟨go,0,none⟩) (ordO part) (b'-1) ⟨m.here,m.way,m.longest,p,SN⟩ wa la yc lc w8):=by
             obtain⟨f1,f2,f3,f4,f5⟩:=P6.out.wf;exact P6.out.turn (S:=[bm]) kp8 (fun g' hg'=>Or.inl (by simpa using hg')) rfl ⟨sN+1,HSN.out.1,by have:=HSN.out.2;omega⟩ (by rw[←hw8];exact P6.out.here) hwy8 P6.out.dis ⟨f1,f2,f3,by dsimp only at f4⊢;omega,f5⟩
            clear HK8 HSN hl0 hl1 hE' hSt' k0 k1 k2 l0 l1 l2 P6 hw8 kp8 hz7 hz8;by_cases hqz:q=0
            ·have hnot:(GW,R.1)∉sn:=HQ0.out.1 hqz;have hL:Hid (srun quDo (ordO part) g (b'-1) true ⟨(GW,R.1),m.way++[⟨m.here.1,m.here.2,p⟩],m.longest,p,(GW,R.1)::sn⟩=some r):=by
              have h:=hlk3.out;rw[←HGW.out,if_neg hnot]at h;exact h
             have P9:Hid _:=P8.out;rw[HN1.out hnot]at P9;have hqi:((q:Int)+1==1)=true:=(by rw[hqz];rfl);clear hlk3 hnot P8;have hB11:=P9.out.here;have g0:w8.cell? ⟨b11,0,none⟩=some (.int .u64 m.here.1.1):=zBk hB11 0;have g1:w8.cell? ⟨b11,1,none⟩=some (.int .u64 m.here.1.2):=zBk hB11 1;have g2:w8.cell? ⟨b11,2,none⟩=some (.string ⟨m.here.2.toArray⟩):=zBk hB11 2;obtain⟨a',c',w9,hap,hown9,hk9,hloc⟩:=zvHK w8 (b11+1) wa m.way.length yc _ m.here.1.1 m.here.1.2 m.here.2 (p:Int) hwy8 (by omega) (by have:=P9.out.ord;omega);have hnS:∀g',g'∈(Value.slice wa m.way.length yc).ownBlock.toList→b11<g'∧g'<wc.heap.size∧(Value.slice la m.longest.length lc).ownBlock≠some g':=fun g' hg'=>by
              have e:(Value.slice wa m.way.length yc).ownBlock=some g':=(by simpa using hg');exact⟨(P9.out.way.lt g' e).1,hwlt.out g' e,P9.out.dis g' e⟩
             have hlt17:=zBq HB8.out;have hlt11:=zBq hB11;have hbk17:w9.heap[e17]?=_:=(hk9.block e17 hlt17 (fun h=>by have:=hnS e17 h;omega)).trans HB8.out;have hbk11:w9.heap[b11]?=_:=(hk9.block b11 hlt11 (fun h=>by have:=hnS b11 h;omega)).trans hB11;have x0:w9.cell? ⟨e17,0,none⟩=some (.int .u64 GW.1):=zBk hbk17 0;have x1:w9.cell? ⟨e17,1,none⟩=some (.int .u64 GW.2):=zBk hbk17 1;have x2:w9.cell? ⟨e17,2,none⟩=some (.string ⟨R.1.toArray⟩):=zBk hbk17 2;have y0:w9.cell? ⟨b11,0,none⟩=some (.int .u64 m.here.1.1):=zBk hbk11 0;have y1:w9.cell? ⟨b11,1,none⟩=some (.int .u64 m.here.1.2):=zBk hbk11 1;have y2:w9.cell? ⟨b11,2,none⟩=some (.string ⟨m.here.2.toArray⟩):=zBk hbk11 2;have z0:=zBn hbk11 0;have z1:=zBn hbk11 1;have z2:=zBn hbk11 2;have ord9:=P9.out.ord;obtain⟨f1,f2,f3,f4,f5⟩:=P9.out.wf;have P10:Hid (PM 206 212 3 csQ wfQ w w.heap.size (w.heap.size+1) b9 bm b11 ga (some ⟨go,0,none⟩) (ordO part) (b'-1) ⟨m.here,m.way++[⟨m.here.1,m.here.2,p⟩],m.longest,p,(GW,R.1)::sn⟩ a' la c' lc w9):=by
              obtain⟨sM,hs3,hs4⟩:=P9.out.seen;refine P9.out.turn (S:=(Value.slice wa m.way.length yc).ownBlock.toList) hk9 (fun g' hg'=>Or.inr (Or.inr ⟨(hnS g' hg').1,(hnS g' hg').2.2⟩)) rfl ⟨sM,hs3.same _ _ _ (hk9.block bm (by omega) (fun h=>by have:=hnS bm h;omega)),hs4⟩ hbk11 ?_ ?_ ⟨f1,f2,f3,by dsimp only;rw[zI,List.length_singleton];omega,?_⟩
              ·dsimp only;rw[zI,List.length_singleton,List.flatMap_append];exact hown9
              ·intro g' hg';dsimp only at hg';rw[zI,List.length_singleton]at hg';rcases hloc with e|⟨g3,e,hge⟩
               ·rw[e]at hg';exact P9.out.dis g' hg'
               ·rw[e]at hg';injection hg' with hg';intro h9;have:=(P9.out.lng.lt g' h9).2;omega
              ·intro x hx;dsimp only at hx;rcases List.mem_append.1 hx with hx|hx
               ·exact f5 x hx
               ·rw[List.mem_singleton]at hx;subst hx;exact⟨f1,f2,by have h:=hpl.out;show p<_;omega⟩
             have hwfG:wfG GW:=(by rw[HGW.out];exact zgs f1 p);have hwfR:wfQ R.1:=(by rw[HR.out];exact HDO.out);have HY:=Hid.mk' hbk11;clear P9 hown9 hloc hnS hbk17 hbk11 hB11 hk9 hwy8 hwlt HB8 f1 f2 f3 f4 f5 HQ0;go_wp2_with (at_builtin;refine zOu rfl _ _ 207 rfl _ _ _ _ rfl rfl hap ?_);go_step3
             (try simp only [Exit.inBlock,Exit.then])
             rw[zXw,←JH.out];refine⟨g,by omega,b'-1,(⟨(GW,R.1),m.way++[(⟨m.here.1,m.here.2,p⟩:Stp (List UInt8))],m.longest,p,(GW,R.1)::sn⟩:Mch (List UInt8)),b9,bm,b11,ga,some ⟨go,0,none⟩,a',la,oc,c',lc,⟨?_,hL.out,⟨by omega,by omega⟩,Nat.zero_le _,z1m LQ1.out LQ2.out (by omega)⟩,exU _ _ (by rw[zI];rfl)⟩;have kp:Kept [b11] w9 (((w9.setCell ⟨b11,0,none⟩ (.int .u64 GW.1)).setCell ⟨b11,1,none⟩ (.int .u64 GW.2)).setCell ⟨b11,2,none⟩ (.string ⟨R.1.toArray⟩)):=(((Kept.refl _ w9).setCell (p:=⟨b11,0,none⟩) (Or.inl (by simp)) _).setCell (p:=⟨b11,1,none⟩) (Or.inl (by simp)) _).setCell (p:=⟨b11,2,none⟩) (Or.inl (by simp)) _;obtain⟨sM,hs3,hs4⟩:=P10.out.seen;obtain⟨f1,f2,f3,f4,f5⟩:=P10.out.wf;have ord10:=P10.out.ord;exact P10.out.turn (S:=[b11]) kp (fun g' hg'=>Or.inr (Or.inl (by simpa using hg'))) rfl ⟨sM,hs3.same _ _ _ (kp.block bm (by omega) (by simp;omega)),hs4⟩ (set3 HY.out _ _ _) (zcc P10.out.way (fun g' hg'=>by have h9:=P10.out.way.lt g' hg';exact kp.block g' h9.2 (by simp;omega))) P10.out.dis ⟨hwfG,hwfR,f3,f4,f5⟩
            ·have hin:(GW,R.1)∈sn:=by
              by_cases h:(GW,R.1)∈sn
              ·exact h
              ·exact absurd (HQ0.out.2 h) hqz
             have hL:Hid (srun quDo (ordO part) g (b'-1) false ⟨m.here,m.way,m.longest,p+1,sn⟩=some r):=by
              have h:=hlk3.out;rw[←HGW.out,if_pos hin]at h;exact h
             have P9:Hid _:=P8.out;rw[HN0.out hin]at P9;have hqi:((q:Int)+1==1)=false:=(by simp;omega);clear hlk3 P8 hin hwy8 hwlt HB8 HQ0;go_wp2;go_roundg g
             case measure=>omega
             case rel=>exact⟨b'-1,p+1,sn,rfl,rfl,by go_num,by omega,by omega,by omega,LQ1.out.less (by omega),P9.out.at_ (b'-1) (Int.le_refl _) (p+1) hpl.out,hL⟩
  ·have hz:¬(p:Int)<(part.length:Int):=(by omega);have hnone:(ordO part)[p]?=none:=List.getElem?_eq_none (by rw[LH.out];omega);cases hwl:m.way.getLast? with
   |none=>
     have hw0:m.way=[]:=List.getLast?_eq_none_iff.1 hwl;have hr:Hid (r=⟨2,m.longest,b'⟩):=by
      have h:=S1.out;unfold srun at h;rw[hnone]at h;dsimp only at h;rw[hwl]at h;injection h with h;exact h.symm
     have hq:(m.way.length:Int)=0:=(by rw[hw0];rfl);clear S1 hwl hw0 hnone;go_wp2;rw[zcM,←QH.out];unfold QQ;have hnn:=zK9 P1.out;have ho:=out3 (Nat.le_succ _) P1.out.below la m.longest (z6a P1.out.lng) hnn (.int .i64 2) (.slice la m.longest.length lc) (.int .i64 b');refine bodyPost_ret (zhj _ _ (w.heap.size+1) _ _ _ (by simp) (set3 HB6.out _ _ _)) rfl ?_;exact⟨la,lc,by rw[hr.out];rfl,by rw[hr.out];exact ho.1,ho.2,(fun g' e1 _=>zN4 P1.out g' e1)⟩
   |some s=>
     obtain⟨l,hls⟩:∃l,m.way=l++[s]:=List.getLast?_eq_some_iff.1 hwl;have hlq:m.way.length=l.length+1:=(by rw[hls];simp);obtain⟨q,hq⟩:∃q,l.length=q:=⟨_,rfl⟩;rw[hq]at hlq;have hr:Hid (srun quDo (ordO part) g b' false ⟨(s.g,s.st),l,m.longest,s.pl+1,sn⟩=some r):=by
      have h:=S1.out;unfold srun at h;rw[hnone]at h;dsimp only at h;rw[hwl]at h;dsimp only at h;rw[hls,List.dropLast_concat]at h;exact h
     obtain⟨gw,hgw,hcw⟩:∃gw,wa=some ⟨gw,0,none⟩∧q≤yc:=by
      obtain⟨_,⟨_,h2⟩|⟨g',_,_,h2,_,_,h3,_⟩⟩:=P1.out.way
      ·have h2':m.way.length=0:=h2;omega
      ·injection h2 with h2 _ h4;have h3':m.way.length≤_:=h3;exact⟨g',h2,by omega⟩
     subst hgw;have hcell:∀i u,(stpC csQ s)[i]?=some u→wr.cell? ⟨gw,q*4+i,none⟩=some u:=by
      intro i u hu;have h:=P1.out.way.cells (g:=gw) rfl (q*4+i) u;dsimp only at h;rw[hls,List.flatMap_append]at h;rw[Addr.add_lit,Nat.zero_add]at h;apply h;have hl4:(l.flatMap (stpC csQ)).length=q*4:=(by rw[←hq];exact z74 (fun _=>rfl) l);rw[List.getElem?_append_right (by omega),hl4,Nat.add_sub_cancel_left];simpa using hu
     have d0:wr.cell? ⟨gw,q*4,none⟩=some (.int .u64 s.g.1):=hcell 0 _ rfl;have d1:wr.cell? ⟨gw,q*4+1,none⟩=some (.int .u64 s.g.2):=hcell 1 _ rfl;have d2:wr.cell? ⟨gw,q*4+2,none⟩=some (.string ⟨s.st.toArray⟩):=hcell 2 _ rfl;have d3:wr.cell? ⟨gw,q*4+3,none⟩=some (.int .i64 (s.pl:Int)):=hcell 3 _ rfl;have hspl:s.pl<128:=by
      have h:=(P1.out.wf.2.2.2.2 s (by show s∈m.way;rw[hls];simp)).2.2;rw[LH.out]at h;omega
     clear hcell;have hB11:=P1.out.here;have g0:=zBk hB11 0;have g1:=zBk hB11 1;have g2:=zBk hB11 2;have z0:=zBn hB11 0;have z1:=zBn hB11 1;have z2:=zBn hB11 2;have hb11:=zBq hB11;simp[csQ]at g0 g1 g2;have HLS:Hid _:=And.intro hls hq;clear S1 hwl hls hq hnone hB11;go_wp2;have hW1:∃W1,W1=wr.alloc (.cells #[.int .u64 s.g.1,.int .u64 s.g.2,.string ⟨s.st.toArray⟩,.int .i64 (s.pl:Int)] 212):=⟨_,rfl⟩;obtain⟨W1,hW1⟩:=hW1;have P2:Hid _:=P1.out.on (W':=W1) (by rw[hW1];exact zA _ _);have hblk:W1.heap[wr.heap.size]?=some (.cells #[.int .u64 s.g.1,.int .u64 s.g.2,.string ⟨s.st.toArray⟩,.int .i64 (s.pl:Int)] 212 (0,0)):=(by rw[hW1];exact ziF _ _ _ rfl);rw[←hW1];have hB11:=P2.out.here;clear hW1 g0 g1 g2 z0 z1 z2 c60 c61 c62 f60 f61 f62 d0 d1 d2 d3 P1 HB6;generalize wr.heap.size=e18 at hblk hb11⊢;have k0:=zBk hblk 0;have k1:=zBk hblk 1;have k2:=zBk hblk 2;have k3:=zBk hblk 3;have g0:=zBk hB11 0;have g1:=zBk hB11 1;have g2:=zBk hB11 2;have z0:=zBn hB11 0;have z1:=zBn hB11 1;have z2:=zBn hB11 2;simp[csQ]at k0 k1 k2 k3 g0 g1 g2;have HB11:=Hid.mk' hB11;clear hB11 hblk;have hne:b11≠e18:=(by omega);have hne2:e18≠b11:=(by omega);have mixed:prog.follows .mixedOrders=true:=(by kernel_rfl);go_big_region_o;go_wp2;go_step3;obtain⟨hls,rfl⟩:=HLS.out;rw[zXw,←JH.out];refine⟨g,by omega,b',⟨(s.g,s.st),l,m.longest,s.pl+1,sn⟩,b9,bm,b11,ga,oa,some ⟨gw,0,none⟩,la,oc,yc,lc,⟨?_,hr.out,⟨hb2,hb1⟩,Nat.le_refl _,z5W LQ1.out hls⟩,exU _ _ rfl⟩;have ord:=P2.out.ord;have kp:Kept [b11] W1 (((W1.setCell ⟨b11,0,none⟩ (.int .u64 s.g.1)).setCell ⟨b11,1,none⟩ (.int .u64 s.g.2)).setCell ⟨b11,2,none⟩ (.string ⟨s.st.toArray⟩)).drew:=((((Kept.refl _ W1).setCell (p:=⟨b11,0,none⟩) (Or.inl (by simp)) _).setCell (p:=⟨b11,1,none⟩) (Or.inl (by simp)) _).setCell (p:=⟨b11,2,none⟩) (Or.inl (by simp)) _).drew;have hlt:=P2.out.way.lt gw rfl;have hwy:=P2.out.way;obtain⟨sN,hs1,hs2⟩:=P2.out.seen;obtain⟨f1,f2,f3,f4,f5⟩:=P2.out.wf;dsimp only at hwy f1 f2 f3 f4 f5;rw[hls]at f4 f5;have f6:=f5 s (by simp);simp only [zI,List.length_singleton]at f4;rw[hls,zI,List.flatMap_append]at hwy;refine P2.out.turn (S:=[b11]) kp (fun g hg=>Or.inr (Or.inl (by simpa using hg))) rfl ⟨sN,hs1.same _ _ _ (kp.block bm (by omega) (by simp;omega)),hs2⟩ (set3 HB11.out _ _ _) (zcc (zH5 hwy (z74 (fun _=>rfl) l)) (fun g hg=>by have e:gw=g:=Option.some.inj hg;exact kp.block g (by omega) (by simp;omega))) P2.out.dis ⟨f6.1,f6.2.1,f6.2.2,by show l.length+_≤_;omega,fun x hx=>f5 x (by simp[hx])⟩
end Go.Proofs.YtbbkihekjdffpaaGreatDoor.srch
