/- Several texts in one. -/
import Derived.Test.YtoeoinpaidhmcaaGreatDoorScanV
import Derived.Laws.Cover4
import Derived.Lib.AtoiErrMem
set_option maxHeartbeats 2000000
namespace Go.Proofs.YtoeoinpaidhmcaaGreatDoor
open Tryz
open Go.RowKit
structure Errs (w:World):Prop where
 syn:∃tp p,w.var? prog "strconv.ErrSyntax"=some #[.iface tp p]
 rng:∃tp p,w.var? prog "strconv.ErrRange"=some #[.iface tp p]
 lt:10≤w.heap.size
theorem Errs.below {w w':World}(h:Errs w)(k:Below 10 w w'):Errs w':=by
 obtain⟨d,p,a⟩:=h.syn;obtain⟨e,q,b⟩:=h.rng;exact⟨⟨d,p,var?_below k (show prog.globalNamed "strconv.ErrSyntax"=some 8 by kernel_rfl) (by omega) a⟩,
  ⟨e,q,var?_below k (show prog.globalNamed "strconv.ErrRange"=some 9 by kernel_rfl) (by omega) b⟩,Nat.le_trans h.lt k.size⟩
theorem Errs.kept {S:List Nat}{w w':World}(h:Errs w)(k:Kept S w w')(a:∀x∈S,10≤x):Errs w':=h.below (k.below h.lt a)
def zDE (l:List Nat):List Nat:=
 let m:=if zEH l=45 then l.tail else l
 if zEH m=48 then m.tail else zva m
def zcA (l:List Nat):List Nat:=l.take (l.length-(zDE l).length)
def intP (l:List Nat):Option (Int×List Nat):=
 match Lib.parseIntB 64 (runesBytes ((zcA l).map Int.ofNat)).data.toList with
 |.ok v=>some (v,zDE l)
 |_=>none
theorem tail_drop (a:List Nat)(k:Nat):(a.drop k).tail=a.drop (k+1):=by rw[List.tail_drop]
theorem zUY {a:List Nat}{k k':Nat}(d:k≤k')(b:k'≤a.length)(h:a.drop k'=zDE (a.drop k)):zcA (a.drop k)=(a.drop k).take (k'-k):=by
 unfold zcA;rw[←h];congr 1;simp;omega
theorem zXi {w:World}{b d h k:Nat}{a:List Nat}(o:Scan w b d h a k)(j n:Nat)(p:j+n≤a.length):
 ∀i,i<(((a.drop j).take n).map Int.ofNat).length→w.cell? ((⟨d,j,none⟩:Addr).add i)=some (.int .i32 ((((a.drop j).take n).map Int.ofNat).getD i 0)):=by
 intro i m;have g:i<n:=by simp at m;omega
 have l:=o.cr (i:=j+i) (by omega);have e:(⟨d,j,none⟩:Addr).add i=⟨d,j+i,none⟩:=by simp[Addr.add]
 rw[e,l];simp[List.getD,List.getElem?_map,g,zC (show j+i<a.length by omega)]
theorem zbw (s:ByteArray)(W:World)(d:Errs W)(b:s.size≤281474976710656):
 Calls prog 196 #[.string s,.int .i64 10,.int .i64 64] W fun e w'=>∃(x:Int) (ev:Value),e=.returned (.tuple #[.int .i64 x,ev])∧Below W.heap.size W w'∧
  ((ev=.nilIface∧Lib.parseIntB 64 s.data.toList=.ok x)∨((∃N,ev=.iface 360 (.pointer (some ⟨N,0,none⟩)))∧∀v,Lib.parseIntB 64 s.data.toList≠.ok v)):=by
 obtain⟨j,p,g⟩:=d.syn;obtain⟨k,q,i⟩:=d.rng;cases h:Lib.parseIntB 64 s.data.toList with
 |ok v=>
   refine(Tryz.strconv_ParseInt_10_at64_ok s (by omega) v h W).mono ?_;rintro e w' ⟨rfl,rfl|⟨t,rfl⟩⟩
   ·exact⟨v,.nilIface,rfl,zD,Or.inl ⟨rfl,rfl⟩⟩
   ·exact⟨v,.nilIface,rfl,Lib.bytesWorld_below _ _ _,Or.inl ⟨rfl,rfl⟩⟩
 |«syntax»=>
   refine(Tryz.strconv_ParseInt_10_at64_syntax_var s b h j p W g).mono ?_;rintro e w' ⟨N,rfl,_,_,a⟩;exact⟨_,_,rfl,a,Or.inr ⟨⟨N,rfl⟩,fun v hv=>by cases hv⟩⟩
 |range=>
   refine(Tryz.strconv_ParseInt_10_at64_range_var s b h k q W i).mono ?_;rintro e w' ⟨N,rfl,_,_,a⟩;exact⟨_,_,rfl,a,Or.inr ⟨⟨N,rfl⟩,fun v hv=>by cases hv⟩⟩
theorem z8e (b p d k:Nat)(a:List Nat)(w:World)(V:Scan w b p d a k)(he:Errs w)(hb:10≤b):
 Calls prog 175 #[.pointer (some ⟨b,0,none⟩)] w fun e w'=>
  ∃k',Scan w' b p d a k'∧Kept [b] w w'∧((∃v,intP (a.drop k)=some (v,a.drop k')∧e=.returned (.tuple #[.int .i64 v,.bool true]))∨
   (intP (a.drop k)=none∧e=.returned (.tuple #[.int .i64 0,.bool false]))):=by
 have c1:=V.c1
 -- the sign
 have ag:∃g:Nat,k≤g∧g≤a.length∧(if zEH (a.drop k)=45 then(a.drop k).tail else a.drop k)=a.drop g∧(zEH (a.drop k)=45→g=k+1)∧(zEH (a.drop k)≠45→g=k):=by
  by_cases h:zEH (a.drop k)=45
  ·have:=znY h (by omega);exact⟨k+1,by omega,by omega,by rw[if_pos h,tail_drop],fun _=>rfl,fun h'=>absurd h h'⟩
  ·exact⟨k,by omega,V.le,by rw[if_neg h],fun h'=>absurd h' h,fun _=>rfl⟩
 obtain⟨g,aa,Z,hm,hy,hn⟩:=ag;go_enter func175,ntmps175;go_wp2_with fail;have H1:Hid (Calls prog 112 #[.pointer (some ⟨b,0,none⟩),.int .i32 45] w fun e w'=>∃x,e=.returned (.bool x)∧Scan w' b p d a g∧Kept [b] w w'):=by
  by_cases h:zEH (a.drop k)=45
  ·refine(z8M b p d k a 45 _ V h (by omega)).mono ?_;rintro e Y ⟨rfl,Q,S⟩;exact⟨_,rfl,by rw[hy h];exact Q,S⟩
  ·refine(zZ5 b p d k a 45 _ V h).mono ?_;rintro e Y ⟨rfl,n,rfl⟩;exact⟨_,rfl,by rw[hn h];exact V.drewN n,(Kept.refl _ _).drewN n⟩
 have HM:Hid ((if zEH (a.drop k)=45 then(a.drop k).tail else a.drop k)=a.drop g):=hm;clear hm hy hn c1;refine H1.out.mono ?_;rintro e Y ⟨x,rfl,Q,S⟩;clear H1;have H2:Hid (Calls prog 112 #[.pointer (some ⟨b,0,none⟩),.int .i32 48] Y fun e w'=>(e=.returned (.bool true)∧zEH (a.drop g)=48∧Scan w' b p d a (g+1)∧Kept [b] w w')∨(e=.returned (.bool false)∧zEH (a.drop g)≠48∧Scan w' b p d a g∧Kept [b] w w')):=by
  by_cases h:zEH (a.drop g)=48
  ·refine(z8M b p d g a 48 _ Q h (by omega)).mono ?_;rintro e Y ⟨rfl,r,K⟩;exact Or.inl ⟨rfl,h,r,S.trans K⟩
  ·refine(zZ5 b p d g a 48 _ Q h).mono ?_;rintro e Y ⟨rfl,n,rfl⟩;exact Or.inr ⟨rfl,h,Q.drewN n,S.drewN n⟩
 go_wp2_with fail;refine H2.out.mono ?_;clear H2;rintro e w2 (⟨rfl,X,r,K⟩|⟨rfl,X,r,K⟩)
 ·have D:Hid (a.drop (g+1)=zDE (a.drop k)):=by
   unfold zDE;rw[HM.out];simp[X,Hid]
  have R:k≤g+1:=by omega
  have ah:k<g+1:=by omega
  clear HM X Q S aa Z;generalize g+1=k' at*;have c0:=r.c0;have c1:=r.c1;have O:=r.le;have ab:=r.small;have ad:=r.room;have hA:(k:Int)≤(k':Int):=by omega
  have hB:(k':Int)≤(d:Int):=by omega
  have s:=run_convert_runes (P:=prog) w2.drew 166 9 21 ⟨p,k,none⟩ (k'-k) (d-k) (((a.drop k).take (k'-k)).map Int.ofNat) (by simp;omega) underlying166 underlying21 underlying9 (zXi (w:=w2.drew) (r.drewN 1) k (k'-k) (by omega));have u:=zUY R O D.out;rw[List.take_of_length_le (l:=((a.drop k).take (k'-k)).map Int.ofNat) (by simp;omega)]at s;have y:=runesBytes_size_le (((a.drop k).take (k'-k)).map Int.ofNat);have q:Hid (intP (a.drop k)=(match Lib.parseIntB 64 (runesBytes (((a.drop k).take (k'-k)).map Int.ofNat)).data.toList with|.ok v=>some (v,a.drop k')|_=>none)):=by
   unfold intP;rw[u,D.out];exact rfl
  have o:(runesBytes (((a.drop k).take (k'-k)).map Int.ofNat)).size≤281474976710656:=Nat.le_trans y (by simp;omega);clear y u D;generalize runesBytes (((a.drop k).take (k'-k)).map Int.ofNat)=TS at*;have G:Errs w2.drew:=(he.kept K (by simpa using hb)).below ⟨rfl,rfl,rfl,Nat.le_refl _,fun _ _=>rfl⟩;have L:=r.bLt;have E:=r.rbLt;have I:=K.size;go_wp2_with fail
  set_option maxRecDepth 100000 in
  go_region_with (go_at_call 196;refine(zbw TS _ G o).mono ?_;rintro e M ⟨B,J,rfl,i,z⟩)
  all_goals
   have HV:Hid ((J=.nilIface∧Lib.parseIntB 64 TS.data.toList=.ok B)∨((∃N,J=.iface 360 (.pointer (some ⟨N,0,none⟩)))∧∀v,Lib.parseIntB 64 TS.data.toList≠.ok v)):=z;clear z s o;have H:Scan M b p d a k':=(r.drewN 1).below i L E;have F:Kept [b] w M:=(K.drewN 1).step i I;clear i;rcases HV with ⟨rfl,t⟩|⟨⟨N,rfl⟩,A⟩
   ·have C:Hid (intP (a.drop k)=some (B,a.drop k')):=(by rw[q.out,t];exact rfl);clear q t;go_wp2;go_ret2;exact⟨k',H,F,Or.inl ⟨B,C.out,rfl⟩⟩
   ·have C:Hid (intP (a.drop k)=none):=by
     rw[q.out];cases hq:Lib.parseIntB 64 TS.data.toList with
     |ok v=>exact absurd hq (A v)
     |«syntax»=>exact rfl
     |range=>exact rfl
    clear q A;go_wp2;go_ret2;exact⟨k',H,F,Or.inr ⟨C.out,rfl⟩⟩
 ·have HN:Hid (zva (a.drop g)=zDE (a.drop k)):=by
   unfold zDE;rw[HM.out];simp[X,Hid]
  clear HM X Q S;go_wp2_with fail;refine(zHI b p d g a _ r).mono ?_;rintro e W ⟨rfl,k',ae,af,m,g6⟩;have D:Hid (a.drop k'=zDE (a.drop k)):=by rw[←HN.out,ae];exact rfl
  have R:k≤k':=by omega
  have U:=K.trans g6;clear HN ae af r K g6 aa Z;by_cases hkc:k<d
  ·have c0:=m.c0;have c1:=m.c1;have O:=m.le;have ab:=m.small;have ad:=m.room;have hA:(k:Int)≤(k':Int):=(by omega);have hB:(k':Int)≤(d:Int):=(by omega);have s:=run_convert_runes (P:=prog) W.drew 166 9 21 ⟨p,k,none⟩ (k'-k) (d-k) (((a.drop k).take (k'-k)).map Int.ofNat) (by simp;omega) underlying166 underlying21 underlying9 (zXi (w:=W.drew) (m.drewN 1) k (k'-k) (by omega));have u:=zUY R O D.out;rw[List.take_of_length_le (l:=((a.drop k).take (k'-k)).map Int.ofNat) (by simp;omega)]at s;have y:=runesBytes_size_le (((a.drop k).take (k'-k)).map Int.ofNat);have q:Hid (intP (a.drop k)=(match Lib.parseIntB 64 (runesBytes (((a.drop k).take (k'-k)).map Int.ofNat)).data.toList with|.ok v=>some (v,a.drop k')|_=>none)):=by
    unfold intP;rw[u,D.out];exact rfl
   have o:(runesBytes (((a.drop k).take (k'-k)).map Int.ofNat)).size≤281474976710656:=Nat.le_trans y (by simp;omega);clear y u D;generalize runesBytes (((a.drop k).take (k'-k)).map Int.ofNat)=TS at*;have G:Errs W.drew:=(he.kept U (by simpa using hb)).below ⟨rfl,rfl,rfl,Nat.le_refl _,fun _ _=>rfl⟩;have L:=m.bLt;have E:=m.rbLt;have I:=U.size;go_wp2_with fail
   set_option maxRecDepth 100000 in
   go_region_with (go_at_call 196;refine(zbw TS _ G o).mono ?_;rintro e M ⟨B,J,rfl,i,z⟩)
   all_goals
    have HV:Hid ((J=.nilIface∧Lib.parseIntB 64 TS.data.toList=.ok B)∨((∃N,J=.iface 360 (.pointer (some ⟨N,0,none⟩)))∧∀v,Lib.parseIntB 64 TS.data.toList≠.ok v)):=z;clear z s o;have H:Scan M b p d a k':=(m.drewN 1).below i L E;have F:Kept [b] w M:=(U.drewN 1).step i I;clear i;rcases HV with ⟨rfl,t⟩|⟨⟨N,rfl⟩,A⟩
    ·have C:Hid (intP (a.drop k)=some (B,a.drop k')):=(by rw[q.out,t];exact rfl);clear q t;go_wp2;go_ret2;exact⟨k',H,F,Or.inl ⟨B,C.out,rfl⟩⟩
    ·have C:Hid (intP (a.drop k)=none):=by
      rw[q.out];cases hq:Lib.parseIntB 64 TS.data.toList with
      |ok v=>exact absurd hq (A v)
      |«syntax»=>exact rfl
      |range=>exact rfl
     clear q A;go_wp2;go_ret2;exact⟨k',H,F,Or.inr ⟨C.out,rfl⟩⟩
  ·have c0:=m.c0;have c1:=m.c1;have O:=m.le;have ab:=m.small;have ad:=m.room;obtain rfl:d=k:=(by have:=V.le;omega);obtain rfl:d=k':=(by omega);have s:=run_convert_runes (P:=prog) W.drew 166 9 21 ⟨p,0,none⟩ 0 0 [] (by simp) underlying166 underlying21 underlying9 (fun j hj=>by cases hj);have u:=zUY R O D.out;rw[show([]:List Int).take 0=((a.drop d).take (d-d)).map Int.ofNat by simp]at s;have y:=runesBytes_size_le (((a.drop d).take (d-d)).map Int.ofNat);have q:Hid (intP (a.drop d)=(match Lib.parseIntB 64 (runesBytes (((a.drop d).take (d-d)).map Int.ofNat)).data.toList with|.ok v=>some (v,a.drop d)|_=>none)):=by
    unfold intP;rw[u,←D.out];exact rfl
   have o:(runesBytes (((a.drop d).take (d-d)).map Int.ofNat)).size≤281474976710656:=Nat.le_trans y (by simp);clear y u D;generalize runesBytes (((a.drop d).take (d-d)).map Int.ofNat)=TS at*;have G:Errs W.drew:=(he.kept U (by simpa using hb)).below ⟨rfl,rfl,rfl,Nat.le_refl _,fun _ _=>rfl⟩;have L:=m.bLt;have E:=m.rbLt;have I:=U.size;go_wp2_with fail
   set_option maxRecDepth 100000 in
   go_region_with (go_at_call 196;refine(zbw TS _ G o).mono ?_;rintro e M ⟨B,J,rfl,i,z⟩)
   all_goals
    have HV:Hid ((J=.nilIface∧Lib.parseIntB 64 TS.data.toList=.ok B)∨((∃N,J=.iface 360 (.pointer (some ⟨N,0,none⟩)))∧∀v,Lib.parseIntB 64 TS.data.toList≠.ok v)):=z;clear z s o;have H:Scan M b p d a d:=(m.drewN 1).below i L E;have F:Kept [b] w M:=(U.drewN 1).step i I;clear i;rcases HV with ⟨rfl,t⟩|⟨⟨N,rfl⟩,A⟩
    ·have C:Hid (intP (a.drop d)=some (B,a.drop d)):=(by rw[q.out,t];exact rfl);clear q t;go_wp2;go_ret2;exact⟨d,H,F,Or.inl ⟨B,C.out,rfl⟩⟩
    ·have C:Hid (intP (a.drop d)=none):=by
      rw[q.out];cases hq:Lib.parseIntB 64 TS.data.toList with
      |ok v=>exact absurd hq (A v)
      |«syntax»=>exact rfl
      |range=>exact rfl
     clear q A;go_wp2;go_ret2;exact⟨d,H,F,Or.inr ⟨C.out,rfl⟩⟩
theorem zJc (a n:Int)(w:World):
 Calls prog 173 #[.int .i64 a,.int .i64 n] w fun e w'=>e=.returned (.agg #[.int .i64 a,.int .i64 n,.string ⟨#[]⟩])∧Below w.heap.size w w':=by
 go_enter func173,ntmps173;go_wp2;exact bodyPost_ret (v:=.agg #[.int .i64 a,.int .i64 n,.string ⟨#[]⟩]) (by simp[results,results173,go_sem]) rfl ⟨rfl,zA _ _⟩
def z60:List Nat:=[116,114,117,101]
def z0R:List Nat:=[102,97,108,115,101]
def zrC:List Nat:=[110,117,108,108]
def zFD (l:List Nat):Option ((Int×Int×List UInt8)×List Nat):=
 if(zEH l==34)then(match zhn l with|some (t,r)=>some ((3,0,t),r)|none=>none)
 else if(zEH l==116)then(if eats z60 l then some ((2,1,[]),l.drop 4)else none)
 else if(zEH l==102)then(if eats z0R l then some ((2,0,[]),l.drop 5)else none)
 else if(zEH l==110)then(if eats zrC l then some ((0,0,[]),l.drop 4)else none)
 else(match intP l with|some (n,r)=>some ((1,n,[]),r)|none=>none)
def aggV (v:Int×Int×List UInt8):Value:=.agg #[.int .i64 v.1,.int .i64 v.2.1,.string ⟨v.2.2.toArray⟩]
def zjr (b rb cap k:Nat)(rs:List Nat)(w:World)(e:Ending)(w':World):Prop:=
 ∃k',Scan w' b rb cap rs k'∧Kept [b] w w'∧((∃v,zFD (rs.drop k)=some (v,rs.drop k')∧e=.returned (.tuple #[aggV v,.bool true]))∨
  (zFD (rs.drop k)=none∧∃v,e=.returned (.tuple #[aggV v,.bool false])))
theorem zpH {w w':World}{o:Obj}{S:List Nat}(k:Kept S (w.alloc o) w')(a:w.heap.size∉S):w'.heap[w.heap.size]?=some o:=by
 rw[k.block w.heap.size (by simp) a];show(w.heap.push o)[w.heap.size]?=_;simp
theorem Scan.setR {w b rb cap rs k}(h:Scan w b rb cap rs k){p:Addr}(a:b≠p.block)(d:rb≠p.block)(v:Value):Scan (w.setCell p v) b rb cap rs k:=
 ⟨by rw[zRA a];exact h.blk,by rw[zRA d];exact h.row,h.ne,h.le,h.small,h.bd,h.room⟩
theorem fin3 {w a:World}{o:Obj}{b d e i r:Nat}{j:List Nat}(q:b<w.heap.size)(s:d<w.heap.size)(l:r=w.heap.size)(n:Scan a b d e j i)(m:Kept [b] (w.alloc o) a)(x y z:Value):
 Scan (((a.setCell ⟨r,0,none⟩ x).setCell ⟨r,1,none⟩ y).setCell ⟨r,2,none⟩ z) b d e j i∧Kept [b] w (((a.setCell ⟨r,0,none⟩ x).setCell ⟨r,1,none⟩ y).setCell ⟨r,2,none⟩ z):=by
 subst l;have h:b≠w.heap.size:=by omega
 have g:d≠w.heap.size:=by omega
 have k:Kept [b] w a:=((Kept.refl _ w).alloc o).trans m;exact⟨((n.setR (p:=⟨w.heap.size,0,none⟩) h g x).setR (p:=⟨w.heap.size,1,none⟩) h g y).setR (p:=⟨w.heap.size,2,none⟩) h g z,((k.setCell (p:=⟨w.heap.size,0,none⟩) (Or.inr zH) x).setCell (p:=⟨w.heap.size,1,none⟩) (Or.inr zH) y).setCell (p:=⟨w.heap.size,2,none⟩) (Or.inr zH) z⟩
theorem zmb (b j g k:Nat)(d:List Nat)(w:World)(i:Scan w b j g d k)(s:zEH (d.drop k)=34):
 Calls prog 150 #[.pointer (some ⟨b,0,none⟩)] w fun e w'=>zjr b j g k d w e w':=by
 have l:Hid (zFD (d.drop k)=(match zhn (d.drop k)with|some (t,r)=>some ((3,0,t),r)|none=>none)):=by
  unfold zFD;rw[s];exact rfl
 have m:=i.bLt;have o:=i.rbLt;have D:Hid (zEH (d.drop k)=34):=s;clear s;go_enter func150,ntmps150;go_wp2_with fail;refine(zPf b j g k d _ (i.alloc _)).mono ?_;rintro e G ⟨rfl,n,rfl⟩;rw[D.out];go_wp2_with fail;refine(zTu b j g k d _ ((i.alloc _).drewN n)).mono ?_;rintro e B ⟨z,A,C,⟨v,h,E,rfl⟩|⟨h,rfl⟩⟩
 all_goals
  have x:Kept [b] (w.alloc (.cells #[.int .i64 0,.int .i64 0,.string ⟨#[]⟩] 171)) B:=((Kept.refl _ _).drewN n).trans C;have a:=zpH x (by simp;omega);have c0:=zBk a 0;have c1:=zBk a 1;have y:=zBk a 2;have H:=zBn a 0;have f1:=zBn a 1;have F:=zBn a 2;simp at c0 c1 y;clear a
 ·have u:Hid (zFD (d.drop k)=some ((3,0,v),d.drop z)):=by rw[l.out,h];exact rfl
  clear h l;go_wp2;obtain⟨p,q⟩:=fin3 m o rfl A x (.int .i64 3) (.int .i64 0) (.string ⟨v.toArray⟩);exact bodyPost_ret (v:=.tuple #[aggV (3,0,v),.bool true]) (by simp[results,results150,go_sem,c0,c1,y,aggV]) rfl ⟨z,p,q,Or.inl ⟨_,u.out,rfl⟩⟩
 ·have u:Hid (zFD (d.drop k)=none):=by rw[l.out,h];exact rfl
  clear h l;go_wp2;obtain⟨p,q⟩:=fin3 m o rfl A x (.int .i64 3) (.int .i64 0) (.string ⟨#[]⟩);exact bodyPost_ret (v:=.tuple #[aggV (3,0,[]),.bool false]) (by simp[results,results150,go_sem,c0,c1,y,aggV]) rfl ⟨z,p,q,Or.inr ⟨u.out,_,rfl⟩⟩
theorem z9S:lets ⟨#[116,114,117,101]⟩=z60:=by decide
theorem zeO:∀i (h:i<(⟨#[116,114,117,101]⟩:ByteArray).size),((⟨#[116,114,117,101]⟩:ByteArray)[i]'h).toNat<128:=by decide
theorem z97 (b l g k:Nat)(d:List Nat)(w:World)(m:Scan w b l g d k)(u:zEH (d.drop k)=116):
 Calls prog 150 #[.pointer (some ⟨b,0,none⟩)] w fun e w'=>zjr b l g k d w e w':=by
 have p:Hid (zFD (d.drop k)=(if eats z60 (d.drop k)then some ((2,1,[]),(d.drop k).drop 4)else none)):=by
  unfold zFD;rw[u];exact rfl
 have q:=m.bLt;have s:=m.rbLt;have D:Hid (zEH (d.drop k)=116):=u;clear u;go_enter func150,ntmps150;go_wp2_with fail;refine(zPf b l g k d _ (m.alloc _)).mono ?_;rintro e H ⟨rfl,n,rfl⟩;rw[D.out];go_wp2_with fail;refine(zJc 2 1 _).mono ?_;rintro e A ⟨rfl,i⟩;have E:Kept [b] (w.alloc (.cells #[.int .i64 0,.int .i64 0,.string ⟨#[]⟩] 171)) A:=((Kept.refl _ _).drewN n).step i (by simp);have h:Scan A b l g d k:=(((m.alloc _).drewN n)).below i (by simp;omega) (by simp;omega);clear i;go_wp2_with fail;refine(zJR b l g k d ⟨#[116,114,117,101]⟩ _ h zeO (by decide)).mono ?_;rintro e F ⟨o,rfl,B,C,j⟩;rw[z9S]at*;have y:=E.trans C;have a:=zpH y (by simp;omega);have c0:=zBk a 0;have c1:=zBk a 1;have z:=zBk a 2;have I:=zBn a 0;have f1:=zBn a 1;have G:=zBn a 2;simp at c0 c1 z;clear a;cases hE:eats z60 (d.drop k)with
 |true=>
   have r:o=k+4:=j hE;have x:Hid (zFD (d.drop k)=some ((2,1,[]),d.drop o)):=by
    rw[p.out,if_pos hE,List.drop_drop,r];exact rfl
   clear hE p j r;go_wp2;obtain⟨t,h⟩:=fin3 q s rfl B y (.int .i64 2) (.int .i64 1) (.string ⟨#[]⟩);exact bodyPost_ret (v:=.tuple #[aggV (2,1,[]),.bool true]) (by simp[results,results150,go_sem,c0,c1,z,aggV]) rfl ⟨o,t,h,Or.inl ⟨_,x.out,rfl⟩⟩
 |false=>
   have x:Hid (zFD (d.drop k)=none):=(by rw[p.out,if_neg (by simp[hE])];exact rfl);clear hE p j;go_wp2;obtain⟨t,h⟩:=fin3 q s rfl B y (.int .i64 2) (.int .i64 1) (.string ⟨#[]⟩);exact bodyPost_ret (v:=.tuple #[aggV (2,1,[]),.bool false]) (by simp[results,results150,go_sem,c0,c1,z,aggV]) rfl ⟨o,t,h,Or.inr ⟨x.out,_,rfl⟩⟩
theorem zKt:lets ⟨#[102,97,108,115,101]⟩=z0R:=by decide
theorem ze9:∀i (h:i<(⟨#[102,97,108,115,101]⟩:ByteArray).size),((⟨#[102,97,108,115,101]⟩:ByteArray)[i]'h).toNat<128:=by decide
theorem zaS (b l g k:Nat)(d:List Nat)(w:World)(m:Scan w b l g d k)(u:zEH (d.drop k)=102):
 Calls prog 150 #[.pointer (some ⟨b,0,none⟩)] w fun e w'=>zjr b l g k d w e w':=by
 have p:Hid (zFD (d.drop k)=(if eats z0R (d.drop k)then some ((2,0,[]),(d.drop k).drop 5)else none)):=by
  unfold zFD;rw[u];exact rfl
 have q:=m.bLt;have s:=m.rbLt;have D:Hid (zEH (d.drop k)=102):=u;clear u;go_enter func150,ntmps150;go_wp2_with fail;refine(zPf b l g k d _ (m.alloc _)).mono ?_;rintro e H ⟨rfl,n,rfl⟩;rw[D.out];go_wp2_with fail;refine(zJc 2 0 _).mono ?_;rintro e A ⟨rfl,i⟩;have E:Kept [b] (w.alloc (.cells #[.int .i64 0,.int .i64 0,.string ⟨#[]⟩] 171)) A:=((Kept.refl _ _).drewN n).step i (by simp);have h:Scan A b l g d k:=(((m.alloc _).drewN n)).below i (by simp;omega) (by simp;omega);clear i;go_wp2_with fail;refine(zJR b l g k d ⟨#[102,97,108,115,101]⟩ _ h ze9 (by decide)).mono ?_;rintro e F ⟨o,rfl,B,C,j⟩;rw[zKt]at*;have y:=E.trans C;have a:=zpH y (by simp;omega);have c0:=zBk a 0;have c1:=zBk a 1;have z:=zBk a 2;have I:=zBn a 0;have f1:=zBn a 1;have G:=zBn a 2;simp at c0 c1 z;clear a;cases hE:eats z0R (d.drop k)with
 |true=>
   have r:o=k+5:=j hE;have x:Hid (zFD (d.drop k)=some ((2,0,[]),d.drop o)):=by
    rw[p.out,if_pos hE,List.drop_drop,r];exact rfl
   clear hE p j r;go_wp2;obtain⟨t,h⟩:=fin3 q s rfl B y (.int .i64 2) (.int .i64 0) (.string ⟨#[]⟩);exact bodyPost_ret (v:=.tuple #[aggV (2,0,[]),.bool true]) (by simp[results,results150,go_sem,c0,c1,z,aggV]) rfl ⟨o,t,h,Or.inl ⟨_,x.out,rfl⟩⟩
 |false=>
   have x:Hid (zFD (d.drop k)=none):=(by rw[p.out,if_neg (by simp[hE])];exact rfl);clear hE p j;go_wp2;obtain⟨t,h⟩:=fin3 q s rfl B y (.int .i64 2) (.int .i64 0) (.string ⟨#[]⟩);exact bodyPost_ret (v:=.tuple #[aggV (2,0,[]),.bool false]) (by simp[results,results150,go_sem,c0,c1,z,aggV]) rfl ⟨o,t,h,Or.inr ⟨x.out,_,rfl⟩⟩
theorem z6R:lets ⟨#[110,117,108,108]⟩=zrC:=by decide
theorem zRr:∀i (h:i<(⟨#[110,117,108,108]⟩:ByteArray).size),((⟨#[110,117,108,108]⟩:ByteArray)[i]'h).toNat<128:=by decide
theorem zfh (b l g k:Nat)(d:List Nat)(w:World)(m:Scan w b l g d k)(u:zEH (d.drop k)=110):
 Calls prog 150 #[.pointer (some ⟨b,0,none⟩)] w fun e w'=>zjr b l g k d w e w':=by
 have p:Hid (zFD (d.drop k)=(if eats zrC (d.drop k)then some ((0,0,[]),(d.drop k).drop 4)else none)):=by
  unfold zFD;rw[u];exact rfl
 have q:=m.bLt;have s:=m.rbLt;have D:Hid (zEH (d.drop k)=110):=u;clear u;go_enter func150,ntmps150;go_wp2_with fail;refine(zPf b l g k d _ (m.alloc _)).mono ?_;rintro e H ⟨rfl,n,rfl⟩;rw[D.out];go_wp2_with fail;refine(zJc 0 0 _).mono ?_;rintro e A ⟨rfl,i⟩;have E:Kept [b] (w.alloc (.cells #[.int .i64 0,.int .i64 0,.string ⟨#[]⟩] 171)) A:=((Kept.refl _ _).drewN n).step i (by simp);have h:Scan A b l g d k:=(((m.alloc _).drewN n)).below i (by simp;omega) (by simp;omega);clear i;go_wp2_with fail;refine(zJR b l g k d ⟨#[110,117,108,108]⟩ _ h zRr (by decide)).mono ?_;rintro e F ⟨o,rfl,B,C,j⟩;rw[z6R]at*;have y:=E.trans C;have a:=zpH y (by simp;omega);have c0:=zBk a 0;have c1:=zBk a 1;have z:=zBk a 2;have I:=zBn a 0;have f1:=zBn a 1;have G:=zBn a 2;simp at c0 c1 z;clear a;cases hE:eats zrC (d.drop k)with
 |true=>
   have r:o=k+4:=j hE;have x:Hid (zFD (d.drop k)=some ((0,0,[]),d.drop o)):=by
    rw[p.out,if_pos hE,List.drop_drop,r];exact rfl
   clear hE p j r;go_wp2;obtain⟨t,h⟩:=fin3 q s rfl B y (.int .i64 0) (.int .i64 0) (.string ⟨#[]⟩);exact bodyPost_ret (v:=.tuple #[aggV (0,0,[]),.bool true]) (by simp[results,results150,go_sem,c0,c1,z,aggV]) rfl ⟨o,t,h,Or.inl ⟨_,x.out,rfl⟩⟩
 |false=>
   have x:Hid (zFD (d.drop k)=none):=(by rw[p.out,if_neg (by simp[hE])];exact rfl);clear hE p j;go_wp2;obtain⟨t,h⟩:=fin3 q s rfl B y (.int .i64 0) (.int .i64 0) (.string ⟨#[]⟩);exact bodyPost_ret (v:=.tuple #[aggV (0,0,[]),.bool false]) (by simp[results,results150,go_sem,c0,c1,z,aggV]) rfl ⟨o,t,h,Or.inr ⟨x.out,_,rfl⟩⟩
theorem zt4 (b i g k:Nat) (d:List Nat) (w:World) (l:Scan w b i g d k) (I:Errs w) (M:10≤b) (C:(zEH (d.drop k)==34)=false) (z:(zEH (d.drop k)==116)=false)
 (E:(zEH (d.drop k)==102)=false) (B:(zEH (d.drop k)==110)=false):
 Calls prog 150 #[.pointer (some ⟨b,0,none⟩)] w fun e w'=>zjr b i g k d w e w':=by
 have o:Hid (zFD (d.drop k)=(match intP (d.drop k)with|some (n,r)=>some ((1,n,[]),r)|none=>none)):=by
  unfold zFD;rw[C,z,E,B];exact rfl
 have p:=l.bLt;have q:=l.rbLt;have N:=I.lt;go_enter func150,ntmps150;go_wp2_with fail;refine(zPf b i g k d _ (l.alloc _)).mono ?_;rintro e P ⟨rfl,n,rfl⟩;have H:Errs ((w.alloc (.cells #[.int .i64 0,.int .i64 0,.string ⟨#[]⟩] 171)).drewN n):=I.kept (S:=[]) (((Kept.refl _ _).alloc _).drewN n) (by simp);go_wp2_with fail;refine(z8e b i g k d _ ((l.alloc _).drewN n) H M).mono ?_;clear C z E B;rintro e J ⟨m,L,K,⟨v,h,rfl⟩|⟨h,rfl⟩⟩
 all_goals
  have G:Kept [b] (w.alloc (.cells #[.int .i64 0,.int .i64 0,.string ⟨#[]⟩] 171)) J:=((Kept.refl _ _).drewN n).trans K;have F:=G.size;simp at F;go_wp2_with fail;refine(zJc 1 _ _).mono ?_;rintro e D ⟨rfl,j⟩;have u:Kept [b] (w.alloc (.cells #[.int .i64 0,.int .i64 0,.string ⟨#[]⟩] 171)) D:=G.step j (by simp;omega);have A:Scan D b i g d m:=L.below j (by omega) (by omega);clear j;have a:=zpH u (by simp;omega);have c0:=zBk a 0;have c1:=zBk a 1;have y:=zBk a 2;have Q:=zBn a 0;have f1:=zBn a 1;have O:=zBn a 2;simp at c0 c1 y;clear a
 ·have x:Hid (zFD (d.drop k)=some ((1,v,[]),d.drop m)):=by rw[o.out,h];exact rfl
  clear h o;go_wp2;obtain⟨s,t⟩:=fin3 p q rfl A u (.int .i64 1) (.int .i64 v) (.string ⟨#[]⟩);exact bodyPost_ret (v:=.tuple #[aggV (1,v,[]),.bool true]) (by simp[results,results150,go_sem,c0,c1,y,aggV]) rfl ⟨m,s,t,Or.inl ⟨_,x.out,rfl⟩⟩
 ·have x:Hid (zFD (d.drop k)=none):=by rw[o.out,h];exact rfl
  clear h o;go_wp2;obtain⟨s,t⟩:=fin3 p q rfl A u (.int .i64 1) (.int .i64 0) (.string ⟨#[]⟩);exact bodyPost_ret (v:=.tuple #[aggV (1,0,[]),.bool false]) (by simp[results,results150,go_sem,c0,c1,y,aggV]) rfl ⟨m,s,t,Or.inr ⟨x.out,_,rfl⟩⟩
theorem zfj (b g a k:Nat)(d:List Nat)(w:World)(h:Scan w b g a d k)(j:Errs w)(i:10≤b):
 Calls prog 150 #[.pointer (some ⟨b,0,none⟩)] w fun e w'=>zjr b g a k d w e w':=by
 by_cases h1:zEH (d.drop k)=34
 ·exact zmb b g a k d w h h1
 by_cases h2:zEH (d.drop k)=116
 ·exact z97 b g a k d w h h2
 by_cases h3:zEH (d.drop k)=102
 ·exact zaS b g a k d w h h3
 by_cases h4:zEH (d.drop k)=110
 ·exact zfh b g a k d w h h4
 exact zt4 b g a k d w h j i (by simpa using h1) (by simpa using h2) (by simpa using h3) (by simpa using h4)
abbrev Mem:=List UInt8×Int×Int×List UInt8
def zcL (l:List Nat):Option (Mem×List Nat):=
 match zhn l with
 |none=>none
 |some (name,r1)=>if(zEH (zek r1)==58)then(match zFD (zek (zek r1).tail)with
  |none=>none
  |some (v,r4)=>some ((name,v),zek r4))else none
def aggM (m:Mem):Value:=.agg #[.string ⟨m.1.toArray⟩,.int .i64 m.2.1,.int .i64 m.2.2.1,.string ⟨m.2.2.2.toArray⟩]
def zuy (b rb cap k:Nat)(rs:List Nat)(w:World)(e:Ending)(w':World):Prop:=
 ∃k',Scan w' b rb cap rs k'∧Kept [b] w w'∧((∃v,zcL (rs.drop k)=some (v,rs.drop k')∧e=.returned (.tuple #[aggM v,.bool true]))∨
  (zcL (rs.drop k)=none∧∃v,e=.returned (.tuple #[aggM v,.bool false])))
theorem fin4 {w a:World}{b h i j r:Nat}{k:List Nat}(n:b<w.heap.size)(o:h<w.heap.size)(e:w.heap.size≤r)(m:Scan a b h i k j)(l:Kept [b] w a)(x y z u:Value):
 Scan ((((a.setCell ⟨r,0,none⟩ x).setCell ⟨r,1,none⟩ y).setCell ⟨r,2,none⟩ z).setCell ⟨r,3,none⟩ u) b h i k j∧Kept [b] w ((((a.setCell ⟨r,0,none⟩ x).setCell ⟨r,1,none⟩ y).setCell ⟨r,2,none⟩ z).setCell ⟨r,3,none⟩ u):=by
 have g:b≠r:=by omega
 have d:h≠r:=by omega
 exact⟨(((m.setR (p:=⟨r,0,none⟩) g d x).setR (p:=⟨r,1,none⟩) g d y).setR (p:=⟨r,2,none⟩) g d z).setR (p:=⟨r,3,none⟩) g d u,(((l.setCell (p:=⟨r,0,none⟩) (Or.inr e) x).setCell (p:=⟨r,1,none⟩) (Or.inr e) y).setCell (p:=⟨r,2,none⟩) (Or.inr e) z).setCell (p:=⟨r,3,none⟩) (Or.inr e) u⟩
def rblk (w:World)(r:Nat):Prop:=w.heap[r]?=some (.cells #[.string ⟨#[]⟩,.int .i64 0,.int .i64 0,.string ⟨#[]⟩] 173 (0,0))
theorem rblk.c {w:World}{r:Nat}(h:rblk w r):w.cell? ⟨r,0,none⟩=some (.string ⟨#[]⟩)∧w.cell? ⟨r,1,none⟩=some (.int .i64 0)∧w.cell? ⟨r,2,none⟩=some (.int .i64 0)∧w.cell? ⟨r,3,none⟩=some (.string ⟨#[]⟩):=
 ⟨by rw[zBk h];rfl,by rw[zBk h];rfl,by rw[zBk h];rfl,by rw[zBk h];rfl⟩
theorem rblk.f {w:World}{r:Nat}(h:rblk w r):w.frozen? ⟨r,0,none⟩=false∧w.frozen? ⟨r,1,none⟩=false∧w.frozen? ⟨r,2,none⟩=false∧w.frozen? ⟨r,3,none⟩=false:=
 ⟨zBn h _,zBn h _,zBn h _,zBn h _⟩
theorem rblk.kept {w w':World}{r:Nat}{S:List Nat}(h:rblk w r)(k:Kept S w w')(a:r∉S):rblk w' r:=(k.block r (zBq h) a).trans h
theorem rblk.new (w:World):rblk (w.alloc (.cells #[.string ⟨#[]⟩,.int .i64 0,.int .i64 0,.string ⟨#[]⟩] 173)) w.heap.size:=by
 show(w.heap.push _)[w.heap.size]?=_;simp
theorem rblk.alloc {w:World}{r:Nat}(h:rblk w r)(o:Obj):rblk (w.alloc o) r:=(Below.heap_alloc _ _ _ (zBq h)).trans h
theorem zam (b g d k:Nat)(a:List Nat)(w:World)(W:Scan w b g d a k)(he:Errs w)(hb:10≤b):
 Calls prog 113 #[.pointer (some ⟨b,0,none⟩)] w fun e w'=>zuy b g d k a w e w':=by
 have r:=W.bLt;have s:=W.rbLt;have ab:=he.lt;go_enter func113,ntmps113;go_wp2_with fail;refine(zTu b g d k a _ (W.alloc _)).mono ?_;rintro e w1 ⟨h,g1,g2,⟨H,z,hl,rfl⟩|⟨z,rfl⟩⟩
 all_goals
  have Q:Kept [b] w w1:=((Kept.refl _ _).alloc _).trans g2;have D:rblk w1 w.heap.size:=(rblk.new w).kept g2 (by simp;omega);clear g2
 ·have u:Hid (zhn (a.drop k)=some (H,a.drop h)):=z;clear z;go_wp2_with fail;refine(zn7 b g d h a _ g1).mono ?_;rintro e w2 ⟨rfl,m,K,X,F,g4⟩;have q2:=Q.trans g4;have J:=D.kept g4 (by simp;omega);have y:Hid (a.drop m=zek (a.drop h)):=K;clear K X g4 g1 Q D;by_cases hc:zEH (a.drop m)=58
  ·have N:Hid (a.drop (m+1)=(zek (a.drop h)).tail):=(by rw[←y.out,tail_drop];exact rfl);have o:Hid ((zEH (zek (a.drop h))==58)=true):=(by rw[←y.out,hc];exact rfl);go_wp2_with fail;refine(z8M b g d m a 58 _ F hc (by omega)).mono ?_;rintro e w3 ⟨rfl,g5,S⟩;have q3:=q2.trans S;have r3:=J.kept S (by simp;omega);clear hc y F S q2 J;go_wp2_with fail;refine(zn7 b g d (m+1) a _ g5).mono ?_;rintro e w4 ⟨rfl,k4,M,_,g7,R⟩;have q4:=q3.trans R;have r4:=r3.kept R (by simp;omega);have C:Hid (a.drop k4=zek (zek (a.drop h)).tail):=(by rw[M,N.out];exact rfl);have e4:Errs w4:=he.kept q4 (by simpa using hb);clear M N g5 R q3 r3;go_wp2_with fail;refine(zfj b g d k4 a _ g7 e4 hb).mono ?_;rintro e w5 ⟨k5,P,A,⟨v,x,rfl⟩|⟨x,v,rfl⟩⟩
   all_goals
    have q5:=q4.trans A;have q:=r4.kept A (by simp;omega);clear A q4 r4 g7 e4;obtain⟨G,I,E⟩:=v;unfold aggV
   ·have H5:Hid (zFD (zek (zek (a.drop h)).tail)=some ((G,I,E),a.drop k5)):=(by rw[←C.out,x];exact rfl);clear x C;have ad:=q5.size;go_wp2_with fail;refine(zn7 b g d k5 a _ (P.alloc _)).mono ?_;rintro e w6 ⟨rfl,k6,O,_,aa,t⟩;have q6:Kept [b] w w6:=(q5.alloc _).trans t;have Z:rblk w6 w.heap.size:=(q.alloc _).kept t (by simp;omega);have B:=zpH t (by have:=P.bLt;simp;omega);have d0:=zBk B 0;have d1:=zBk B 1;have d2:=zBk B 2;have n:Hid (zcL (a.drop k)=some ((H,G,I,E),a.drop k6)):=by
     unfold zcL;rw[u.out];simp only [o.out,H5.out,O];exact rfl
    clear H5 o u O B t;obtain⟨c0,c1,l,p⟩:=Z.c;obtain⟨Y,f1,U,V⟩:=Z.f;simp at d0 d1 d2;have L:w5.heap.size≠w.heap.size:=(by have:=zBq q;omega);clear Z q;go_wp2;obtain⟨i,j⟩:=fin4 r s zH aa q6 (.string ⟨H.toArray⟩) (.int .i64 G) (.int .i64 I) (.string ⟨E.toArray⟩);exact bodyPost_ret (v:=.tuple #[aggM (H,G,I,E),.bool true]) (by simp[results,results113,go_sem,c0,c1,l,p,aggM]) rfl ⟨k6,i,j,Or.inl ⟨_,n.out,rfl⟩⟩
   ·have n:Hid (zcL (a.drop k)=none):=by
     unfold zcL;rw[u.out];simp only [o.out,←C.out,x];exact rfl
    clear x C o u;obtain⟨c0,c1,l,p⟩:=q.c;obtain⟨Y,f1,U,V⟩:=q.f;have L:=zBq q;clear q;go_wp2;obtain⟨i,j⟩:=fin4 r s zH P q5 (.string ⟨#[]⟩) (.int .i64 0) (.int .i64 0) (.string ⟨#[]⟩);exact bodyPost_ret (v:=.tuple #[aggM ([],0,0,[]),.bool false]) (by simp[results,results113,go_sem,c0,c1,l,p,L,aggM]) rfl ⟨k5,i.alloc _,j.alloc _,Or.inr ⟨n.out,_,rfl⟩⟩
  ·have o:Hid ((zEH (zek (a.drop h))==58)=false):=(by rw[←y.out];simp[hc,Hid]);have n:Hid (zcL (a.drop k)=none):=by
    unfold zcL;rw[u.out];simp only [o.out];exact rfl
   go_wp2_with fail;refine(zZ5 b g d m a 58 _ F hc).mono ?_;rintro e w3 ⟨rfl,n3,rfl⟩;clear hc o y u;obtain⟨c0,c1,l,p⟩:=J.c;obtain⟨Y,f1,U,V⟩:=J.f;go_wp2;obtain⟨i,j⟩:=fin4 r s zH (F.drewN n3) (q2.drewN n3) (.string ⟨#[]⟩) (.int .i64 0) (.int .i64 0) (.string ⟨#[]⟩);exact bodyPost_ret (v:=.tuple #[aggM ([],0,0,[]),.bool false]) (by simp[results,results113,go_sem,c0,c1,l,p,aggM]) rfl ⟨m,i,j,Or.inr ⟨n.out,_,rfl⟩⟩
 ·have n:Hid (zcL (a.drop k)=none):=by
   unfold zcL;rw[z];exact rfl
  clear z;obtain⟨c0,c1,l,p⟩:=D.c;obtain⟨Y,f1,U,V⟩:=D.f;go_wp2;obtain⟨i,j⟩:=fin4 r s zH g1 Q (.string ⟨#[]⟩) (.int .i64 0) (.int .i64 0) (.string ⟨#[]⟩);exact bodyPost_ret (v:=.tuple #[aggM ([],0,0,[]),.bool false]) (by simp[results,results113,go_sem,c0,c1,l,p,aggM]) rfl ⟨h,i,j,Or.inr ⟨n.out,_,rfl⟩⟩
end Go.Proofs.YtoeoinpaidhmcaaGreatDoor
