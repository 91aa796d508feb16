/- Several texts in one. -/
import Derived.Test.YtoeoinpaidhmcaaGreatDoorSrchYG
set_option maxHeartbeats 12000000
set_option maxRecDepth 1000000
namespace Go.Proofs.YtoeoinpaidhmcaaGreatDoor.srch
open Go.RowKit Go.Maps
theorem forthG_any {σ:Type} [DecidableEq σ]{y:M3}{d:σ→OpV→σ×Int×Int}{z:σ}{v:En σ}{E:σ→Value}{wf:σ→Prop}{sz:σ→Nat}{V P:TypeId}(w:World)(part:List OpV)(S:Option Addr)(Q:Nat)(r:Out)(hl:part.length≤128)(PT:Pt y d z v E wf sz V P w (ordO part))(N n:Nat)(a:Act)(W:World)(hN:n≤N)(hJ:PJG d E wf sz V P w part S Q r 0 n a W):
 ∃tail,findLabel (zpa y) 0=some (.seq .skip tail)∧tail.wp Tryz.prog (zLM (fun l a' w'=>∃n',n'<N∧PJG d E wf sz V P w part S Q r l n' a' w') (QG y w r)) a W:=by
 obtain⟨b,m,U,bm,F,ga,oa,wa,la,oc,yc,lc,⟨hP,hS,hb,_,ab⟩,u,rfl⟩:=hJ;have L:=zYV part;have o:Hid _:=hP;have O:Hid (srun d (ordO part) n b true m=some r):=hS;have LH:Hid _:=L;have X:Hid _:=fun n' (hn:n'≤N) a' W'=>backG_any w part S Q r hl PT N n' a' W' hn;clear hP hS L;obtain⟨g,rfl⟩:∃g,n=g+1:=by
  cases n with
  |zero=>exact absurd O.out (by simp[srun])
  |succ g=>exact⟨g,rfl⟩
 generalize hJK:(fun(l:Nat) (a':Act) (w':World)=>∃n',n'<N∧PJG d E wf sz V P w part S Q r l n' a' w')=JK at X⊢;have JH:Hid _:=hJK;clear hJK;generalize hQK:QG y w r=QK at X⊢;have QH:Hid _:=hQK;clear hQK;obtain⟨x6,y6,z6,Y⟩:=o.out.res;have D:=o.out.must;have A:=o.out.here;have g0:W.cell? ⟨F,0,none⟩=some (.int .u64 m.here.1.1):=zBk A 0;have g1:W.cell? ⟨F,1,none⟩=some (.int .u64 m.here.1.2):=zBk A 1;obtain⟨M,hM⟩:∃M,M=retG (ordO part) 0 (0,0):=⟨_,rfl⟩;rw[←hM]at D;have q0:W.cell? ⟨U,0,none⟩=some (.int .u64 M.1):=zBk D 0;have q1:W.cell? ⟨U,1,none⟩=some (.int .u64 M.2):=zBk D 1;have HM:Hid _:=hM;have p:=fun W=>zlR M m.here.1 W;unfold grAg at p;have ak:m.way.length≤1000000:=by have h:m.way.length+b.toNat≤1000000:=o.out.wf.2.2.2.1;omega
 have ad:=zBq Y;have J:=fun W' (hb':Below W.heap.size W W')=>PT.taken oa wa oc yc (ordO part) m.way W' (o.out.on hb').row.1 (zeQ (fun _=>rfl) (fun _=>rfl) (o.out.on hb').way) (by omega) (fun s hs=>((o.out.on hb').wf.2.2.2.2 s hs).2.2);rw[LH.out]at J;have TK:=Hid.mk' J;clear J hM D A PT;cases y
 all_goals
  refine⟨_,rfl,?_⟩;cases hA:zJn M m.here.1 with
  |true=>
    have I:Hid (r=⟨1,takenL (ordO part) m.way,b⟩):=by
     have h:=O.out;unfold srun at h;rw[←HM.out,if_pos hA]at h;injection h with h;exact h.symm
    simp only [hA]at p;clear O hA;go_wp2_with (go_at_call 124;refine(p _).mono ?_;rintro e H ⟨rfl,k⟩;have K:=TK.out H k;have C:H.heap[w.heap.size+1]?=_:=(k.block _ ad).trans Y;have q:=Hid.mk' k);refine K.mono ?_;rintro e G ⟨a,c,rfl,i,t⟩;have R:=zBq C;have j:G.heap[w.heap.size+1]?=some (.cells #[x6,y6,z6] 203 (0,0)):=(t.block _ R).trans C;have ai:G.cell? ⟨w.heap.size+1,0,none⟩=some x6:=zBk j 0;have an:G.cell? ⟨w.heap.size+1,1,none⟩=some y6:=zBk j 1;have aj:G.cell? ⟨w.heap.size+1,2,none⟩=some z6:=zBk j 2;have am:=zBn j 0;have al:=zBn j 1;have ah:=zBn j 2;have x:=zUxG (ordO part) m.way (fun s hs=>(o.out.wf.2.2.2.2 s hs).2.2);rw[←x]at i;have hO:=z6a i;have af:∀g',a=some ⟨g',0,none⟩→takenL (ordO part) m.way≠[]→g'≠w.heap.size+1:=fun g' e1 _ e2=>by
     have h:=(i.lt g' (by rw[e1];rfl)).1;omega
    have aa:∀g',a=some ⟨g',0,none⟩→w.heap.size≤g':=fun g' e1=>by
     have h:=(i.lt g' (by rw[e1];rfl)).1;omega
    have ag:=Hid.mk' aa;have Z:Below w.heap.size w G:=(o.out.on q.out).below.trans (t.mono ((o.out.on q.out).below.size));have B:=Hid.mk' (And.intro hO (And.intro Z (And.intro j x)));clear hO Z i t C x j aa;go_wp2;rw[zcM,←QH.out];unfold QG;have ho:=out3 (Nat.le_succ _) B.out.2.1 a (takenL (ordO part) m.way) B.out.1 af (.int .i64 1) (.slice a m.way.length c) (.int .i64 b);refine bodyPost_ret (zbt _ _ _ (w.heap.size+1) _ _ _ (by simp) (set3 B.out.2.2.1 _ _ _)) rfl ?_;exact⟨a,c,by rw[I.out,B.out.2.2.2];rfl,by rw[I.out];exact ho.1,ho.2,(fun g' e1 _=>ag.out g' e1)⟩
  |false=>
    have I:Hid (srun d (ordO part) g b false ⟨m.here,m.way,if m.longest.length<m.way.length then takenL (ordO part) m.way else m.longest,0,m.seen⟩=some r):=by
     have h:=O.out;unfold srun at h;rw[←HM.out,if_neg (by rw[hA];simp)]at h;exact h
    simp only [hA]at p;clear O hA;have ao:m.longest.length≤9223372036854775807:=by
     obtain⟨_,⟨_,h2⟩|⟨_,_,_,_,_,_,h2,h3,_⟩⟩:=o.out.lng
     ·omega
     ·unfold maxLen at h3;omega
    by_cases hgt:m.longest.length<m.way.length
    ·have ae:(m.longest.length:Int)<(m.way.length:Int):=(by omega);go_wp2_with (go_at_call 124;refine(p _).mono ?_;rintro e H ⟨rfl,k⟩;have K:=TK.out H k;have q:=Hid.mk' k;clear k);refine K.mono ?_;rintro e G ⟨a,c,rfl,i,t⟩;have B:=Hid.mk' (And.intro i t);clear i t;go_wp2;go_step3;go_step;go_step;have x:=zUxG (ordO part) m.way (fun s hs=>(o.out.wf.2.2.2.2 s hs).2.2);have i:=B.out.1;rw[←x]at i;have h:=I.out;rw[if_pos hgt]at h;refine z7c (X.out g (by omega) _ _ ?_) rfl;exact⟨b,(⟨m.here,m.way,takenL (ordO part) m.way,0,m.seen⟩:Mch σ),U,bm,F,ga,oa,wa,a,oc,yc,c,⟨((o.out.on q.out).long B.out.2 _ a c i).at_ b (Int.le_refl _) 0 (Nat.zero_le _),h,hb,Nat.le_refl _,ab⟩,exU _ _ (by rw[x];rfl)⟩
    ·have ae:¬(m.longest.length:Int)<(m.way.length:Int):=(by omega);go_wp2_with (go_at_call 124;refine(p _).mono ?_;rintro e H ⟨rfl,k⟩;have q:=Hid.mk' k;clear k);go_step3;go_step;go_step;have h:=I.out;rw[if_neg hgt]at h;refine z7c (X.out g (by omega) _ _ ?_) rfl;exact⟨b,(⟨m.here,m.way,m.longest,0,m.seen⟩:Mch σ),U,bm,F,ga,oa,wa,la,oc,yc,lc,⟨(o.out.on q.out).at_ b (Int.le_refl _) 0 (Nat.zero_le _),h,hb,Nat.le_refl _,ab⟩,exU _ _ rfl⟩
open Tryz
@[reducible] def hG (y:M3):FuncId:=match y with | .i=>93 | .b=>101 | .q=>100
@[reducible] def mG (y:M3):TypeId:=match y with | .i=>129 | .b=>137 | .q=>135
theorem zcy {σ:Type} [DecidableEq σ] {y:M3} {d:σ→OpV→σ×Int×Int} {z:σ} {v:En σ} {E:σ→Value} {wf:σ→Prop} {sz:σ→Nat} {K H:TypeId} (o:Option Addr) (q:Nat) (part:List OpV) (b:Int) (w:World) (hr:OAt w o part) (L:part.length≤128) (hb: -9223372036854775808≤b∧b≤1000000) (m:Pt y d z v E wf sz K H w (ordO part))
 (r:Out) (M:Nat) (R:srun d (ordO part) M b true ⟨((0,0),z),[],[],0,[]⟩=some r):
 Calls prog (hG y) #[.agg #[],.slice o part.length q,.int .i64 b] w fun e w'=>∃a c,e=.returned (.agg #[.int .i64 (r.verdict:Int),.slice a r.order.length c,.int .i64 r.left])∧OAt w' a r.order∧Below w.heap.size w w'∧∀g,a=some ⟨g,0,none⟩→r.order≠[]→w.heap.size≤g:=by
 obtain⟨u,i⟩:∃u,u=(w.alloc (.cells #[] (mG y))).alloc (.cells #[.int .i64 0,.slice none 0 0,.int .i64 0] 203):=⟨_,rfl⟩;have x:Below w.heap.size w u:=by rw[i];exact(zA _ _).alloc (by simp) _
 have ad:u.heap.size=w.heap.size+2:=by rw[i];simp
 have O:u.heap[w.heap.size+1]?=some (.cells #[.int .i64 0,.slice none 0 0,.int .i64 0] 203 (0,0)):=by rw[i];exact ziF _ _ _ (by simp)
 have N:=zWm o q part u (hr.below x) L;have G:=zYV part;have D:=fun j p W (h:OAt W j (ordO part))=>zYL j p (ordO part) W h (by omega);have t:=fun j p W (h:OAt W j (ordO part))=>ztU j p (ordO part) W h (by omega);rw[G]at D t;unfold grAg at t;have AH:=Hid.mk' D;have RE:=Hid.mk' t;have BY:=Hid.mk' N
 have FW:=Hid.mk' (forthG_any w part o q r L m (M+1) M);have FB:=Hid.mk' (fun n=>And.intro (forthG_any w part o q r L m n n) (backG_any w part o q r L m n n));have af:=Hid.mk' (And.intro x (And.intro ad O));have HF:=Hid.mk' R;have HL:=Hid.mk' G;have ah:=@run_makeMap prog;have m:Hid _:=m;clear D t N hr R x O G;cases y
 all_goals
  dsimp only [mG]at i;dsimp only [hG]
  first|go_enter func93,ntmps93|go_enter func101,ntmps101|go_enter func100,ntmps100
  go_wp2;rw[←i];clear i;refine z1v (PJG d E wf sz K H w part o q r) ?first ?pass
  case pass=>
   intro l n a W Y;have ae:l=0∨l=1:=(by obtain⟨_,_,_,_,_,_,_,_,_,_,_,_,⟨_,_,_,h,_⟩,_⟩:=Y;omega);rcases ae with rfl|rfl
   ·obtain⟨aa,hf,hw⟩:=(FB.out n).1 a W zH Y;exact⟨_,hf,wp_seq (wp_skip hw)⟩
   ·obtain⟨aa,hf,hw⟩:=(FB.out n).2 a W zH Y;exact⟨_,hf,wp_seq (wp_skip hw)⟩
  case first=>
   go_wp2_with (go_at_call 121;refine BY.out.mono ?_;rintro e w1 ⟨j,p,rfl,Z,V,S⟩;have P:=AH.out j p w1 Z;have H1:=Hid.mk' (And.intro Z (And.intro V S));clear Z V S);refine P.mono ?_;rintro e w2 ⟨rfl,⟨ac,Q,X⟩,B⟩;have ab:=RE.out j p w2 (H1.out.1.below B);have H2:=Hid.mk' (And.intro Q (And.intro X B));clear Q X B P;go_wp2_with (go_at_call 123;refine ab.mono ?_;rintro e I ⟨rfl,U⟩;have H3:=Hid.mk' U;clear U);obtain⟨W5,F⟩:∃W5,W5=((I.alloc (.cells #[.int .u64 (retG (ordO part) 0 (0,0)).1,.int .u64 (retG (ordO part) 0 (0,0)).2] 244)).alloc (.map #[] 0)).alloc (.cells #[.int .u64 0,.int .u64 0,E z] K):=⟨_,rfl⟩;have ag:=znO (tS:=H) (k:=3) (cs:=(csG E)) (wfS:=wf) (s0:=z) m.out.wf0 hb af.out H1.out H2.out H3.out HL.out F;have A:=m.out.tc;have C:=m.out.z0;dsimp only [tC]at A;dsimp only [zG]at C;rw[A,C]at F;rw[←F];clear A C;go_step3;go_step;go_step;refine zwL (J:=fun l a' w'=>∃n',n'<M+1∧PJG d E wf sz K H w part o q r l n' a' w') (z7c (FW.out _ _ (Nat.le_succ _) ?_) rfl) (fun l a w ⟨n,_,h⟩=>⟨n,h⟩);exact⟨b,(⟨((0,0),z),[],[],0,[]⟩:Mch σ),I.heap.size,I.heap.size+1,I.heap.size+1+1,w1.heap.size,j,none,none,p,0,0,⟨ag,HF.out,hb,Nat.zero_le _,by show sz z≤_;rw[m.out.sz0];exact Nat.zero_le _,fun s hs=>by cases hs⟩,exU _ _ rfl⟩
theorem zMZ {σ:Type} [DecidableEq σ]{y:M3}{d:σ→OpV→σ×Int×Int}{z:σ}{v:En σ}{E:σ→Value}{wf:σ→Prop}{sz:σ→Nat}{s o:TypeId}(i:Option Addr)(j:Nat)(part:List OpV)(b:Int)(w:World)(m:OAt w i part)(q:part.length≤128)(x: -9223372036854775808≤b∧b≤1000000)(u:Pt y d z v E wf sz s o w (ordO part)):
 Calls prog (hG y) #[.agg #[],.slice i part.length j,.int .i64 b] w fun e w'=>∃r a c,Found d (ordO part) z b r∧e=.returned (.agg #[.int .i64 (r.verdict:Int),.slice a r.order.length c,.int .i64 r.left])∧OAt w' a r.order∧Below w.heap.size w w'∧∀g,a=some ⟨g,0,none⟩→r.order≠[]→w.heap.size≤g:=by
 obtain⟨r,k,h⟩:=Found.ends d (ordO part) z b;refine(zcy i j part b w m q x u r k h).mono ?_;rintro e w' ⟨a,c,p,l,t,n⟩;exact⟨r,a,c,⟨k,h⟩,p,l,t,n⟩
theorem ztm (d:Option Addr)(j:Nat)(part:List OpV)(b:Int)(w:World)(n:OAt w d part)(m:part.length≤128)(l: -9223372036854775808≤b∧b≤1000000)(k:∀s o,o∈ordO part→wfI s→wfI (zCI s o).1):
 Calls prog 93 #[.agg #[],.slice d part.length j,.int .i64 b] w fun e w'=>∃r a c,Found zCI (ordO part) 0 b r∧e=.returned (.agg #[.int .i64 (r.verdict:Int),.slice a r.order.length c,.int .i64 r.left])∧OAt w' a r.order∧Below w.heap.size w w'∧∀g,a=some ⟨g,0,none⟩→r.order≠[]→w.heap.size≤g:=
 zMZ (y:=.i) (v:=⟨id,fun _=>false,fun _=>[]⟩) (E:=fun s=>.int .i64 s) (wf:=wfI) (sz:=fun _=>0) d j part b w n m l ⟨fun _=>rfl,rfl,rfl,fun s s' h=>by injection h,fun s h=>wf_i64 h,fun s o W _ _ _=>zh8 s o W,fun s o ho hs _=>k s o ho hs,fun _ _ _=>Nat.zero_le _,zsi,rfl,⟨by decide,by decide⟩,rfl⟩
theorem zXN (d:Option Addr)(i:Nat)(part:List OpV)(b:Int)(w:World)(l:OAt w d part)(k:part.length≤128)(j: -9223372036854775808≤b∧b≤1000000):
 Calls prog 101 #[.agg #[],.slice d part.length i,.int .i64 b] w fun e w'=>∃r a c,Found zqY (ordO part) false b r∧e=.returned (.agg #[.int .i64 (r.verdict:Int),.slice a r.order.length c,.int .i64 r.left])∧OAt w' a r.order∧Below w.heap.size w w'∧∀g,a=some ⟨g,0,none⟩→r.order≠[]→w.heap.size≤g:=
 zMZ (y:=.b) (v:=⟨fun _=>0,id,fun _=>[]⟩) (E:=fun s=>.bool s) (wf:=fun _=>True) (sz:=fun _=>0) d i part b w l k j ⟨fun _=>rfl,rfl,rfl,fun s s' h=>by injection h,fun _ _=>trivial,fun s o W _ _ _=>z2q s o W,fun _ _ _ _ _=>trivial,fun _ _ _=>Nat.zero_le _,zi9,rfl,trivial,rfl⟩
theorem zbuZ (st:List UInt8)(o:OpV)(a: -9223372036854775808≤o.arg∧o.arg≤9223372036854775807):(quDo st o).1.length≤st.length+22:=by
 have b:=Lib.itoa_length_le o.arg a.1 a.2;have d:(Lib.cut st [44]).2.1.length≤st.length:=by
  unfold Lib.cut;split<;>simp<;>omega
 unfold quDo;split
 ·split
  ·dsimp only;omega
  ·simp only [zJ,List.length_singleton];omega
 ·split
  ·split
   ·dsimp only;omega
   ·dsimp only;omega
  ·dsimp only;omega
theorem zUt (i:Option Addr)(j:Nat)(part:List OpV)(b:Int)(w:World)(m:OAt w i part)(l:part.length≤128)(k: -9223372036854775808≤b∧b≤1000000)(d:(∀o,o∈ordO part→ -9223372036854775808≤o.arg∧o.arg≤9223372036854775807)∧Glob w∧Pow w):
 Calls prog 100 #[.agg #[],.slice i part.length j,.int .i64 b] w fun e w'=>∃r a c,Found quDo (ordO part) [] b r∧e=.returned (.agg #[.int .i64 (r.verdict:Int),.slice a r.order.length c,.int .i64 r.left])∧OAt w' a r.order∧Below w.heap.size w w'∧∀g,a=some ⟨g,0,none⟩→r.order≠[]→w.heap.size≤g:=
 zMZ (y:=.q) (v:=⟨fun _=>0,fun _=>false,id⟩) (E:=fun s=>.string ⟨s.toArray⟩) (wf:=fun s=>s.length≤22000000) (sz:=fun s=>s.length) i j part b w m l k
  ⟨fun _=>rfl,rfl,rfl,fun s s' h=>by injection h with h;injection h with h;injection h,fun s h=>(by show s.toArray.size≤_;rw[List.size_toArray];unfold maxLen;omega),fun s o W ho hs hW=>zhS s o W (by omega) (d.1 o ho) (d.2.1.below (hW.mono d.2.1.errs.lt)) (d.2.2.stays hW),fun s o ho _ hz=>(by have:=zbuZ s o (d.1 o ho);omega),fun s o ho=>zbuZ s o (d.1 o ho),zgk,rfl,Nat.zero_le _,rfl⟩
end Go.Proofs.YtoeoinpaidhmcaaGreatDoor.srch
