/- Several texts in one. -/
import Derived.Test.YtbbkihekjdffpaaGreatDoorScanV
import Derived.Laws.Cover4
import Derived.Lib.AtoiErrMem
set_option maxHeartbeats 2000000
namespace Go.Proofs.YtbbkihekjdffpaaGreatDoor
open Tryz
open Go.RowKit
structure Errs (w:World):Prop where
 syn:∃tp p,w.var? prog "strconv.ErrSyntax"=some #[.iface tp p]
 rng:∃tp p,w.var? prog "strconv.ErrRange"=some #[.iface tp p]
 lt:10≤w.heap.size
theorem Errs.below {w w':World}(h:Errs w)(k:Below 10 w w'):Errs w':=by
 obtain⟨tp,p,h1⟩:=h.syn;obtain⟨tq,q,h2⟩:=h.rng;exact⟨⟨tp,p,var?_below k (show prog.globalNamed "strconv.ErrSyntax"=some 8 by kernel_rfl) (by omega) h1⟩,
  ⟨tq,q,var?_below k (show prog.globalNamed "strconv.ErrRange"=some 9 by kernel_rfl) (by omega) h2⟩,Nat.le_trans h.lt k.size⟩
theorem Errs.kept {S:List Nat}{w w':World}(h:Errs w)(k:Kept S w w')(hS:∀x∈S,10≤x):Errs w':=h.below (k.below h.lt hS)
def zDE (l:List Nat):List Nat:=
 let m:=if zEH l=45 then l.tail else l
 if zEH m=48 then m.tail else zva m
def zcA (l:List Nat):List Nat:=l.take (l.length-(zDE l).length)
def intP (l:List Nat):Option (Int×List Nat):=
 match Lib.parseIntB 64 (runesBytes ((zcA l).map Int.ofNat)).data.toList with
 |.ok v=>some (v,zDE l)
 |_=>none
theorem tail_drop (rs:List Nat)(k:Nat):(rs.drop k).tail=rs.drop (k+1):=by rw[List.tail_drop]
theorem zUY {rs:List Nat}{k k':Nat}(hk:k≤k')(hk':k'≤rs.length)(h:rs.drop k'=zDE (rs.drop k)):zcA (rs.drop k)=(rs.drop k).take (k'-k):=by
 unfold zcA;rw[←h];congr 1;simp;omega
theorem zXi {w:World}{b rb cap k:Nat}{rs:List Nat}(hs:Scan w b rb cap rs k)(j n:Nat)(hj:j+n≤rs.length):
 ∀i,i<(((rs.drop j).take n).map Int.ofNat).length→w.cell? ((⟨rb,j,none⟩:Addr).add i)=some (.int .i32 ((((rs.drop j).take n).map Int.ofNat).getD i 0)):=by
 intro i hi;have hi':i<n:=by simp at hi;omega
 have h1:=hs.cr (i:=j+i) (by omega);have e:(⟨rb,j,none⟩:Addr).add i=⟨rb,j+i,none⟩:=by simp[Addr.add]
 rw[e,h1];simp[List.getD,List.getElem?_map,hi',zC (show j+i<rs.length by omega)]
theorem zbw (s:ByteArray)(W:World)(hE:Errs W)(hs:s.size≤281474976710656):
 Calls prog 195 #[.string s,.int .i64 10,.int .i64 64] W fun e w'=>∃(x:Int) (ev:Value),e=.returned (.tuple #[.int .i64 x,ev])∧Below W.heap.size W w'∧
  ((ev=.nilIface∧Lib.parseIntB 64 s.data.toList=.ok x)∨((∃N,ev=.iface 332 (.pointer (some ⟨N,0,none⟩)))∧∀v,Lib.parseIntB 64 s.data.toList≠.ok v)):=by
 obtain⟨tp,p,h1⟩:=hE.syn;obtain⟨tq,q,h2⟩:=hE.rng;cases h:Lib.parseIntB 64 s.data.toList with
 |ok v=>
   refine(Tryz.strconv_ParseInt_10_at64_ok s (by omega) v h W).mono ?_;rintro e w' ⟨rfl,rfl|⟨t,rfl⟩⟩
   ·exact⟨v,.nilIface,rfl,zD,Or.inl ⟨rfl,rfl⟩⟩
   ·exact⟨v,.nilIface,rfl,Lib.bytesWorld_below _ _ _,Or.inl ⟨rfl,rfl⟩⟩
 |«syntax»=>
   refine(Tryz.strconv_ParseInt_10_at64_syntax_var s hs h tp p W h1).mono ?_;rintro e w' ⟨N,rfl,_,_,hb⟩;exact⟨_,_,rfl,hb,Or.inr ⟨⟨N,rfl⟩,fun v hv=>by cases hv⟩⟩
 |range=>
   refine(Tryz.strconv_ParseInt_10_at64_range_var s hs h tq q W h2).mono ?_;rintro e w' ⟨N,rfl,_,_,hb⟩;exact⟨_,_,rfl,hb,Or.inr ⟨⟨N,rfl⟩,fun v hv=>by cases hv⟩⟩
theorem z8e (b rb cap k:Nat)(rs:List Nat)(w:World)(hs:Scan w b rb cap rs k)(he:Errs w)(hb:10≤b):
 Calls prog 188 #[.pointer (some ⟨b,0,none⟩)] w fun e w'=>
  ∃k',Scan w' b rb cap rs k'∧Kept [b] w w'∧((∃v,intP (rs.drop k)=some (v,rs.drop k')∧e=.returned (.tuple #[.int .i64 v,.bool true]))∨
   (intP (rs.drop k)=none∧e=.returned (.tuple #[.int .i64 0,.bool false]))):=by
 have c1:=hs.c1
 -- the sign
 have hsgn:∃k1:Nat,k≤k1∧k1≤rs.length∧(if zEH (rs.drop k)=45 then(rs.drop k).tail else rs.drop k)=rs.drop k1∧(zEH (rs.drop k)=45→k1=k+1)∧(zEH (rs.drop k)≠45→k1=k):=by
  by_cases h:zEH (rs.drop k)=45
  ·have:=znY h (by omega);exact⟨k+1,by omega,by omega,by rw[if_pos h,tail_drop],fun _=>rfl,fun h'=>absurd h h'⟩
  ·exact⟨k,by omega,hs.le,by rw[if_neg h],fun h'=>absurd h' h,fun _=>rfl⟩
 obtain⟨k1,hk1,hk1l,hm,hy,hn⟩:=hsgn;go_enter func188,ntmps188;go_wp2_with fail;have H1:Hid (Calls prog 144 #[.pointer (some ⟨b,0,none⟩),.int .i32 45] w fun e w'=>∃x,e=.returned (.bool x)∧Scan w' b rb cap rs k1∧Kept [b] w w'):=by
  by_cases h:zEH (rs.drop k)=45
  ·refine(z8M b rb cap k rs 45 _ hs h (by omega)).mono ?_;rintro e w1 ⟨rfl,g1,g2⟩;exact⟨_,rfl,by rw[hy h];exact g1,g2⟩
  ·refine(zZ5 b rb cap k rs 45 _ hs h).mono ?_;rintro e w1 ⟨rfl,n,rfl⟩;exact⟨_,rfl,by rw[hn h];exact hs.drewN n,(Kept.refl _ _).drewN n⟩
 have HM:Hid ((if zEH (rs.drop k)=45 then(rs.drop k).tail else rs.drop k)=rs.drop k1):=hm;clear hm hy hn c1;refine H1.out.mono ?_;rintro e w1 ⟨x,rfl,g1,g2⟩;clear H1;have H2:Hid (Calls prog 144 #[.pointer (some ⟨b,0,none⟩),.int .i32 48] w1 fun e w'=>(e=.returned (.bool true)∧zEH (rs.drop k1)=48∧Scan w' b rb cap rs (k1+1)∧Kept [b] w w')∨(e=.returned (.bool false)∧zEH (rs.drop k1)≠48∧Scan w' b rb cap rs k1∧Kept [b] w w')):=by
  by_cases h:zEH (rs.drop k1)=48
  ·refine(z8M b rb cap k1 rs 48 _ g1 h (by omega)).mono ?_;rintro e w1 ⟨rfl,g3,g4⟩;exact Or.inl ⟨rfl,h,g3,g2.trans g4⟩
  ·refine(zZ5 b rb cap k1 rs 48 _ g1 h).mono ?_;rintro e w1 ⟨rfl,n,rfl⟩;exact Or.inr ⟨rfl,h,g1.drewN n,g2.drewN n⟩
 go_wp2_with fail;refine H2.out.mono ?_;clear H2;rintro e w2 (⟨rfl,hp,g3,g4⟩|⟨rfl,hp,g3,g4⟩)
 ·have HR:Hid (rs.drop (k1+1)=zDE (rs.drop k)):=by
   unfold zDE;rw[HM.out];simp[hp,Hid]
  have hkk:k≤k1+1:=by omega
  have hkl:k<k1+1:=by omega
  clear HM hp g1 g2 hk1 hk1l;generalize k1+1=k' at*;have c0:=g3.c0;have c1:=g3.c1;have hle:=g3.le;have hsm:=g3.small;have hcp:=g3.room;have hA:(k:Int)≤(k':Int):=by omega
  have hB:(k':Int)≤(cap:Int):=by omega
  have hcv:=run_convert_runes (P:=prog) w2.drew 239 9 21 ⟨rb,k,none⟩ (k'-k) (cap-k) (((rs.drop k).take (k'-k)).map Int.ofNat) (by simp;omega) underlying239 underlying21 underlying9 (zXi (w:=w2.drew) (g3.drewN 1) k (k'-k) (by omega));have htk:=zUY hkk hle HR.out;rw[List.take_of_length_le (l:=((rs.drop k).take (k'-k)).map Int.ofNat) (by simp;omega)]at hcv;have hsz:=runesBytes_size_le (((rs.drop k).take (k'-k)).map Int.ofNat);have HI:Hid (intP (rs.drop k)=(match Lib.parseIntB 64 (runesBytes (((rs.drop k).take (k'-k)).map Int.ofNat)).data.toList with|.ok v=>some (v,rs.drop k')|_=>none)):=by
   unfold intP;rw[htk,HR.out];exact rfl
  have hsz':(runesBytes (((rs.drop k).take (k'-k)).map Int.ofNat)).size≤281474976710656:=Nat.le_trans hsz (by simp;omega);clear hsz htk HR;generalize runesBytes (((rs.drop k).take (k'-k)).map Int.ofNat)=TS at*;have hE2:Errs w2.drew:=(he.kept g4 (by simpa using hb)).below ⟨rfl,rfl,rfl,Nat.le_refl _,fun _ _=>rfl⟩;have hbW:=g3.bLt;have hrW:=g3.rbLt;have hW0:=g4.size;go_wp2_with fail
  set_option maxRecDepth 100000 in
  go_region_with (go_at_call 195;refine(zbw TS _ hE2 hsz').mono ?_;rintro e w9 ⟨x9,ev,rfl,hbl,hev⟩)
  all_goals
   have HV:Hid ((ev=.nilIface∧Lib.parseIntB 64 TS.data.toList=.ok x9)∨((∃N,ev=.iface 332 (.pointer (some ⟨N,0,none⟩)))∧∀v,Lib.parseIntB 64 TS.data.toList≠.ok v)):=hev;clear hev hcv hsz';have g8:Scan w9 b rb cap rs k':=(g3.drewN 1).below hbl hbW hrW;have g9:Kept [b] w w9:=(g4.drewN 1).step hbl hW0;clear hbl;rcases HV with ⟨rfl,hok⟩|⟨⟨N,rfl⟩,hno⟩
   ·have HX:Hid (intP (rs.drop k)=some (x9,rs.drop k')):=(by rw[HI.out,hok];exact rfl);clear HI hok;go_wp2;go_ret2;exact⟨k',g8,g9,Or.inl ⟨x9,HX.out,rfl⟩⟩
   ·have HX:Hid (intP (rs.drop k)=none):=by
     rw[HI.out];cases hq:Lib.parseIntB 64 TS.data.toList with
     |ok v=>exact absurd hq (hno v)
     |«syntax»=>exact rfl
     |range=>exact rfl
    clear HI hno;go_wp2;go_ret2;exact⟨k',g8,g9,Or.inr ⟨HX.out,rfl⟩⟩
 ·have HN:Hid (zva (rs.drop k1)=zDE (rs.drop k)):=by
   unfold zDE;rw[HM.out];simp[hp,Hid]
  clear HM hp g1 g2;go_wp2_with fail;refine(zHI b rb cap k1 rs _ g3).mono ?_;rintro e w3 ⟨rfl,k',hk',hkk1,g5,g6⟩;have HR:Hid (rs.drop k'=zDE (rs.drop k)):=by rw[←HN.out,hk'];exact rfl
  have hkk:k≤k':=by omega
  have g7:=g4.trans g6;clear HN hk' hkk1 g3 g4 g6 hk1 hk1l;by_cases hkc:k<cap
  ·have c0:=g5.c0;have c1:=g5.c1;have hle:=g5.le;have hsm:=g5.small;have hcp:=g5.room;have hA:(k:Int)≤(k':Int):=(by omega);have hB:(k':Int)≤(cap:Int):=(by omega);have hcv:=run_convert_runes (P:=prog) w3.drew 239 9 21 ⟨rb,k,none⟩ (k'-k) (cap-k) (((rs.drop k).take (k'-k)).map Int.ofNat) (by simp;omega) underlying239 underlying21 underlying9 (zXi (w:=w3.drew) (g5.drewN 1) k (k'-k) (by omega));have htk:=zUY hkk hle HR.out;rw[List.take_of_length_le (l:=((rs.drop k).take (k'-k)).map Int.ofNat) (by simp;omega)]at hcv;have hsz:=runesBytes_size_le (((rs.drop k).take (k'-k)).map Int.ofNat);have HI:Hid (intP (rs.drop k)=(match Lib.parseIntB 64 (runesBytes (((rs.drop k).take (k'-k)).map Int.ofNat)).data.toList with|.ok v=>some (v,rs.drop k')|_=>none)):=by
    unfold intP;rw[htk,HR.out];exact rfl
   have hsz':(runesBytes (((rs.drop k).take (k'-k)).map Int.ofNat)).size≤281474976710656:=Nat.le_trans hsz (by simp;omega);clear hsz htk HR;generalize runesBytes (((rs.drop k).take (k'-k)).map Int.ofNat)=TS at*;have hE2:Errs w3.drew:=(he.kept g7 (by simpa using hb)).below ⟨rfl,rfl,rfl,Nat.le_refl _,fun _ _=>rfl⟩;have hbW:=g5.bLt;have hrW:=g5.rbLt;have hW0:=g7.size;go_wp2_with fail
   set_option maxRecDepth 100000 in
   go_region_with (go_at_call 195;refine(zbw TS _ hE2 hsz').mono ?_;rintro e w9 ⟨x9,ev,rfl,hbl,hev⟩)
   all_goals
    have HV:Hid ((ev=.nilIface∧Lib.parseIntB 64 TS.data.toList=.ok x9)∨((∃N,ev=.iface 332 (.pointer (some ⟨N,0,none⟩)))∧∀v,Lib.parseIntB 64 TS.data.toList≠.ok v)):=hev;clear hev hcv hsz';have g8:Scan w9 b rb cap rs k':=(g5.drewN 1).below hbl hbW hrW;have g9:Kept [b] w w9:=(g7.drewN 1).step hbl hW0;clear hbl;rcases HV with ⟨rfl,hok⟩|⟨⟨N,rfl⟩,hno⟩
    ·have HX:Hid (intP (rs.drop k)=some (x9,rs.drop k')):=(by rw[HI.out,hok];exact rfl);clear HI hok;go_wp2;go_ret2;exact⟨k',g8,g9,Or.inl ⟨x9,HX.out,rfl⟩⟩
    ·have HX:Hid (intP (rs.drop k)=none):=by
      rw[HI.out];cases hq:Lib.parseIntB 64 TS.data.toList with
      |ok v=>exact absurd hq (hno v)
      |«syntax»=>exact rfl
      |range=>exact rfl
     clear HI hno;go_wp2;go_ret2;exact⟨k',g8,g9,Or.inr ⟨HX.out,rfl⟩⟩
  ·have c0:=g5.c0;have c1:=g5.c1;have hle:=g5.le;have hsm:=g5.small;have hcp:=g5.room;obtain rfl:cap=k:=(by have:=hs.le;omega);obtain rfl:cap=k':=(by omega);have hcv:=run_convert_runes (P:=prog) w3.drew 239 9 21 ⟨rb,0,none⟩ 0 0 [] (by simp) underlying239 underlying21 underlying9 (fun j hj=>by cases hj);have htk:=zUY hkk hle HR.out;rw[show([]:List Int).take 0=((rs.drop cap).take (cap-cap)).map Int.ofNat by simp]at hcv;have hsz:=runesBytes_size_le (((rs.drop cap).take (cap-cap)).map Int.ofNat);have HI:Hid (intP (rs.drop cap)=(match Lib.parseIntB 64 (runesBytes (((rs.drop cap).take (cap-cap)).map Int.ofNat)).data.toList with|.ok v=>some (v,rs.drop cap)|_=>none)):=by
    unfold intP;rw[htk,←HR.out];exact rfl
   have hsz':(runesBytes (((rs.drop cap).take (cap-cap)).map Int.ofNat)).size≤281474976710656:=Nat.le_trans hsz (by simp);clear hsz htk HR;generalize runesBytes (((rs.drop cap).take (cap-cap)).map Int.ofNat)=TS at*;have hE2:Errs w3.drew:=(he.kept g7 (by simpa using hb)).below ⟨rfl,rfl,rfl,Nat.le_refl _,fun _ _=>rfl⟩;have hbW:=g5.bLt;have hrW:=g5.rbLt;have hW0:=g7.size;go_wp2_with fail
   set_option maxRecDepth 100000 in
   go_region_with (go_at_call 195;refine(zbw TS _ hE2 hsz').mono ?_;rintro e w9 ⟨x9,ev,rfl,hbl,hev⟩)
   all_goals
    have HV:Hid ((ev=.nilIface∧Lib.parseIntB 64 TS.data.toList=.ok x9)∨((∃N,ev=.iface 332 (.pointer (some ⟨N,0,none⟩)))∧∀v,Lib.parseIntB 64 TS.data.toList≠.ok v)):=hev;clear hev hcv hsz';have g8:Scan w9 b rb cap rs cap:=(g5.drewN 1).below hbl hbW hrW;have g9:Kept [b] w w9:=(g7.drewN 1).step hbl hW0;clear hbl;rcases HV with ⟨rfl,hok⟩|⟨⟨N,rfl⟩,hno⟩
    ·have HX:Hid (intP (rs.drop cap)=some (x9,rs.drop cap)):=(by rw[HI.out,hok];exact rfl);clear HI hok;go_wp2;go_ret2;exact⟨cap,g8,g9,Or.inl ⟨x9,HX.out,rfl⟩⟩
    ·have HX:Hid (intP (rs.drop cap)=none):=by
      rw[HI.out];cases hq:Lib.parseIntB 64 TS.data.toList with
      |ok v=>exact absurd hq (hno v)
      |«syntax»=>exact rfl
      |range=>exact rfl
     clear HI hno;go_wp2;go_ret2;exact⟨cap,g8,g9,Or.inr ⟨HX.out,rfl⟩⟩
theorem zJc (kd n:Int)(w:World):
 Calls prog 186 #[.int .i64 kd,.int .i64 n] w fun e w'=>e=.returned (.agg #[.int .i64 kd,.int .i64 n,.string ⟨#[]⟩])∧Below w.heap.size w w':=by
 go_enter func186,ntmps186;go_wp2;exact bodyPost_ret (v:=.agg #[.int .i64 kd,.int .i64 n,.string ⟨#[]⟩]) (by simp[results,results186,go_sem]) rfl ⟨rfl,zA _ _⟩
def z60:List Nat:=[116,114,117,101]
def z0R:List Nat:=[102,97,108,115,101]
def zrC:List Nat:=[110,117,108,108]
def zFD (l:List Nat):Option ((Int×Int×List UInt8)×List Nat):=
 if(zEH l==34)then(match zgn l with|some (t,r)=>some ((3,0,t),r)|none=>none)
 else if(zEH l==116)then(if eats z60 l then some ((2,1,[]),l.drop 4)else none)
 else if(zEH l==102)then(if eats z0R l then some ((2,0,[]),l.drop 5)else none)
 else if(zEH l==110)then(if eats zrC l then some ((0,0,[]),l.drop 4)else none)
 else(match intP l with|some (n,r)=>some ((1,n,[]),r)|none=>none)
def aggV (v:Int×Int×List UInt8):Value:=.agg #[.int .i64 v.1,.int .i64 v.2.1,.string ⟨v.2.2.toArray⟩]
def zjr (b rb cap k:Nat)(rs:List Nat)(w:World)(e:Ending)(w':World):Prop:=
 ∃k',Scan w' b rb cap rs k'∧Kept [b] w w'∧((∃v,zFD (rs.drop k)=some (v,rs.drop k')∧e=.returned (.tuple #[aggV v,.bool true]))∨
  (zFD (rs.drop k)=none∧∃v,e=.returned (.tuple #[aggV v,.bool false])))
theorem zpH {w w':World}{o:Obj}{S:List Nat}(k:Kept S (w.alloc o) w')(hS:w.heap.size∉S):w'.heap[w.heap.size]?=some o:=by
 rw[k.block w.heap.size (by simp) hS];show(w.heap.push o)[w.heap.size]?=_;simp
theorem Scan.setR {w b rb cap rs k}(h:Scan w b rb cap rs k){p:Addr}(h1:b≠p.block)(h2:rb≠p.block)(v:Value):Scan (w.setCell p v) b rb cap rs k:=
 ⟨by rw[zRA h1];exact h.blk,by rw[zRA h2];exact h.row,h.ne,h.le,h.small,h.bd,h.room⟩
theorem fin3 {w w2:World}{o:Obj}{b rb cap k2 r:Nat}{rs:List Nat}(hs0:b<w.heap.size)(hr0:rb<w.heap.size)(hr:r=w.heap.size)(g1:Scan w2 b rb cap rs k2)(g3:Kept [b] (w.alloc o) w2)(x y z:Value):
 Scan (((w2.setCell ⟨r,0,none⟩ x).setCell ⟨r,1,none⟩ y).setCell ⟨r,2,none⟩ z) b rb cap rs k2∧Kept [b] w (((w2.setCell ⟨r,0,none⟩ x).setCell ⟨r,1,none⟩ y).setCell ⟨r,2,none⟩ z):=by
 subst hr;have h1:b≠w.heap.size:=by omega
 have h2:rb≠w.heap.size:=by omega
 have k0:Kept [b] w w2:=((Kept.refl _ w).alloc o).trans g3;exact⟨((g1.setR (p:=⟨w.heap.size,0,none⟩) h1 h2 x).setR (p:=⟨w.heap.size,1,none⟩) h1 h2 y).setR (p:=⟨w.heap.size,2,none⟩) h1 h2 z,((k0.setCell (p:=⟨w.heap.size,0,none⟩) (Or.inr zG) x).setCell (p:=⟨w.heap.size,1,none⟩) (Or.inr zG) y).setCell (p:=⟨w.heap.size,2,none⟩) (Or.inr zG) z⟩
theorem zmb (b rb cap k:Nat)(rs:List Nat)(w:World)(hs:Scan w b rb cap rs k)(hp:zEH (rs.drop k)=34):
 Calls prog 170 #[.pointer (some ⟨b,0,none⟩)] w fun e w'=>zjr b rb cap k rs w e w':=by
 have HV:Hid (zFD (rs.drop k)=(match zgn (rs.drop k)with|some (t,r)=>some ((3,0,t),r)|none=>none)):=by
  unfold zFD;rw[hp];exact rfl
 have hbw:=hs.bLt;have hrw:=hs.rbLt;have HP:Hid (zEH (rs.drop k)=34):=hp;clear hp;go_enter func170,ntmps170;go_wp2_with fail;refine(zPf b rb cap k rs _ (hs.alloc _)).mono ?_;rintro e w1 ⟨rfl,n,rfl⟩;rw[HP.out];go_wp2_with fail;refine(zTu b rb cap k rs _ ((hs.alloc _).drewN n)).mono ?_;rintro e w2 ⟨k2,g1,g2,⟨v,hv,hl,rfl⟩|⟨hv,rfl⟩⟩
 all_goals
  have g3:Kept [b] (w.alloc (.cells #[.int .i64 0,.int .i64 0,.string ⟨#[]⟩] 244)) w2:=((Kept.refl _ _).drewN n).trans g2;have hblk:=zpH g3 (by simp;omega);have c0:=zBk hblk 0;have c1:=zBk hblk 1;have c2:=zBk hblk 2;have f0:=zBn hblk 0;have f1:=zBn hblk 1;have f2:=zBn hblk 2;simp at c0 c1 c2;clear hblk
 ·have HX:Hid (zFD (rs.drop k)=some ((3,0,v),rs.drop k2)):=by rw[HV.out,hv];exact rfl
  clear hv HV;go_wp2;obtain⟨s1,s2⟩:=fin3 hbw hrw rfl g1 g3 (.int .i64 3) (.int .i64 0) (.string ⟨v.toArray⟩);exact bodyPost_ret (v:=.tuple #[aggV (3,0,v),.bool true]) (by simp[results,results170,go_sem,c0,c1,c2,aggV]) rfl ⟨k2,s1,s2,Or.inl ⟨_,HX.out,rfl⟩⟩
 ·have HX:Hid (zFD (rs.drop k)=none):=by rw[HV.out,hv];exact rfl
  clear hv HV;go_wp2;obtain⟨s1,s2⟩:=fin3 hbw hrw rfl g1 g3 (.int .i64 3) (.int .i64 0) (.string ⟨#[]⟩);exact bodyPost_ret (v:=.tuple #[aggV (3,0,[]),.bool false]) (by simp[results,results170,go_sem,c0,c1,c2,aggV]) rfl ⟨k2,s1,s2,Or.inr ⟨HX.out,_,rfl⟩⟩
theorem z9S:lets ⟨#[116,114,117,101]⟩=z60:=by decide
theorem zeO:∀i (h:i<(⟨#[116,114,117,101]⟩:ByteArray).size),((⟨#[116,114,117,101]⟩:ByteArray)[i]'h).toNat<128:=by decide
theorem z97 (b rb cap k:Nat)(rs:List Nat)(w:World)(hs:Scan w b rb cap rs k)(hp:zEH (rs.drop k)=116):
 Calls prog 170 #[.pointer (some ⟨b,0,none⟩)] w fun e w'=>zjr b rb cap k rs w e w':=by
 have HV:Hid (zFD (rs.drop k)=(if eats z60 (rs.drop k)then some ((2,1,[]),(rs.drop k).drop 4)else none)):=by
  unfold zFD;rw[hp];exact rfl
 have hbw:=hs.bLt;have hrw:=hs.rbLt;have HP:Hid (zEH (rs.drop k)=116):=hp;clear hp;go_enter func170,ntmps170;go_wp2_with fail;refine(zPf b rb cap k rs _ (hs.alloc _)).mono ?_;rintro e w1 ⟨rfl,n,rfl⟩;rw[HP.out];go_wp2_with fail;refine(zJc 2 1 _).mono ?_;rintro e w2 ⟨rfl,hb2⟩;have q2:Kept [b] (w.alloc (.cells #[.int .i64 0,.int .i64 0,.string ⟨#[]⟩] 244)) w2:=((Kept.refl _ _).drewN n).step hb2 (by simp);have s2:Scan w2 b rb cap rs k:=(((hs.alloc _).drewN n)).below hb2 (by simp;omega) (by simp;omega);clear hb2;go_wp2_with fail;refine(zJR b rb cap k rs ⟨#[116,114,117,101]⟩ _ s2 zeO (by decide)).mono ?_;rintro e w3 ⟨k3,rfl,g1,g2,hk3⟩;rw[z9S]at*;have g3:=q2.trans g2;have hblk:=zpH g3 (by simp;omega);have c0:=zBk hblk 0;have c1:=zBk hblk 1;have c2:=zBk hblk 2;have f0:=zBn hblk 0;have f1:=zBn hblk 1;have f2:=zBn hblk 2;simp at c0 c1 c2;clear hblk;cases hE:eats z60 (rs.drop k)with
 |true=>
   have hkk:k3=k+4:=hk3 hE;have HX:Hid (zFD (rs.drop k)=some ((2,1,[]),rs.drop k3)):=by
    rw[HV.out,if_pos hE,List.drop_drop,hkk];exact rfl
   clear hE HV hk3 hkk;go_wp2;obtain⟨s1,s2⟩:=fin3 hbw hrw rfl g1 g3 (.int .i64 2) (.int .i64 1) (.string ⟨#[]⟩);exact bodyPost_ret (v:=.tuple #[aggV (2,1,[]),.bool true]) (by simp[results,results170,go_sem,c0,c1,c2,aggV]) rfl ⟨k3,s1,s2,Or.inl ⟨_,HX.out,rfl⟩⟩
 |false=>
   have HX:Hid (zFD (rs.drop k)=none):=(by rw[HV.out,if_neg (by simp[hE])];exact rfl);clear hE HV hk3;go_wp2;obtain⟨s1,s2⟩:=fin3 hbw hrw rfl g1 g3 (.int .i64 2) (.int .i64 1) (.string ⟨#[]⟩);exact bodyPost_ret (v:=.tuple #[aggV (2,1,[]),.bool false]) (by simp[results,results170,go_sem,c0,c1,c2,aggV]) rfl ⟨k3,s1,s2,Or.inr ⟨HX.out,_,rfl⟩⟩
theorem zKt:lets ⟨#[102,97,108,115,101]⟩=z0R:=by decide
theorem ze9:∀i (h:i<(⟨#[102,97,108,115,101]⟩:ByteArray).size),((⟨#[102,97,108,115,101]⟩:ByteArray)[i]'h).toNat<128:=by decide
theorem zaS (b rb cap k:Nat)(rs:List Nat)(w:World)(hs:Scan w b rb cap rs k)(hp:zEH (rs.drop k)=102):
 Calls prog 170 #[.pointer (some ⟨b,0,none⟩)] w fun e w'=>zjr b rb cap k rs w e w':=by
 have HV:Hid (zFD (rs.drop k)=(if eats z0R (rs.drop k)then some ((2,0,[]),(rs.drop k).drop 5)else none)):=by
  unfold zFD;rw[hp];exact rfl
 have hbw:=hs.bLt;have hrw:=hs.rbLt;have HP:Hid (zEH (rs.drop k)=102):=hp;clear hp;go_enter func170,ntmps170;go_wp2_with fail;refine(zPf b rb cap k rs _ (hs.alloc _)).mono ?_;rintro e w1 ⟨rfl,n,rfl⟩;rw[HP.out];go_wp2_with fail;refine(zJc 2 0 _).mono ?_;rintro e w2 ⟨rfl,hb2⟩;have q2:Kept [b] (w.alloc (.cells #[.int .i64 0,.int .i64 0,.string ⟨#[]⟩] 244)) w2:=((Kept.refl _ _).drewN n).step hb2 (by simp);have s2:Scan w2 b rb cap rs k:=(((hs.alloc _).drewN n)).below hb2 (by simp;omega) (by simp;omega);clear hb2;go_wp2_with fail;refine(zJR b rb cap k rs ⟨#[102,97,108,115,101]⟩ _ s2 ze9 (by decide)).mono ?_;rintro e w3 ⟨k3,rfl,g1,g2,hk3⟩;rw[zKt]at*;have g3:=q2.trans g2;have hblk:=zpH g3 (by simp;omega);have c0:=zBk hblk 0;have c1:=zBk hblk 1;have c2:=zBk hblk 2;have f0:=zBn hblk 0;have f1:=zBn hblk 1;have f2:=zBn hblk 2;simp at c0 c1 c2;clear hblk;cases hE:eats z0R (rs.drop k)with
 |true=>
   have hkk:k3=k+5:=hk3 hE;have HX:Hid (zFD (rs.drop k)=some ((2,0,[]),rs.drop k3)):=by
    rw[HV.out,if_pos hE,List.drop_drop,hkk];exact rfl
   clear hE HV hk3 hkk;go_wp2;obtain⟨s1,s2⟩:=fin3 hbw hrw rfl g1 g3 (.int .i64 2) (.int .i64 0) (.string ⟨#[]⟩);exact bodyPost_ret (v:=.tuple #[aggV (2,0,[]),.bool true]) (by simp[results,results170,go_sem,c0,c1,c2,aggV]) rfl ⟨k3,s1,s2,Or.inl ⟨_,HX.out,rfl⟩⟩
 |false=>
   have HX:Hid (zFD (rs.drop k)=none):=(by rw[HV.out,if_neg (by simp[hE])];exact rfl);clear hE HV hk3;go_wp2;obtain⟨s1,s2⟩:=fin3 hbw hrw rfl g1 g3 (.int .i64 2) (.int .i64 0) (.string ⟨#[]⟩);exact bodyPost_ret (v:=.tuple #[aggV (2,0,[]),.bool false]) (by simp[results,results170,go_sem,c0,c1,c2,aggV]) rfl ⟨k3,s1,s2,Or.inr ⟨HX.out,_,rfl⟩⟩
theorem z6R:lets ⟨#[110,117,108,108]⟩=zrC:=by decide
theorem zRr:∀i (h:i<(⟨#[110,117,108,108]⟩:ByteArray).size),((⟨#[110,117,108,108]⟩:ByteArray)[i]'h).toNat<128:=by decide
theorem zfh (b rb cap k:Nat)(rs:List Nat)(w:World)(hs:Scan w b rb cap rs k)(hp:zEH (rs.drop k)=110):
 Calls prog 170 #[.pointer (some ⟨b,0,none⟩)] w fun e w'=>zjr b rb cap k rs w e w':=by
 have HV:Hid (zFD (rs.drop k)=(if eats zrC (rs.drop k)then some ((0,0,[]),(rs.drop k).drop 4)else none)):=by
  unfold zFD;rw[hp];exact rfl
 have hbw:=hs.bLt;have hrw:=hs.rbLt;have HP:Hid (zEH (rs.drop k)=110):=hp;clear hp;go_enter func170,ntmps170;go_wp2_with fail;refine(zPf b rb cap k rs _ (hs.alloc _)).mono ?_;rintro e w1 ⟨rfl,n,rfl⟩;rw[HP.out];go_wp2_with fail;refine(zJc 0 0 _).mono ?_;rintro e w2 ⟨rfl,hb2⟩;have q2:Kept [b] (w.alloc (.cells #[.int .i64 0,.int .i64 0,.string ⟨#[]⟩] 244)) w2:=((Kept.refl _ _).drewN n).step hb2 (by simp);have s2:Scan w2 b rb cap rs k:=(((hs.alloc _).drewN n)).below hb2 (by simp;omega) (by simp;omega);clear hb2;go_wp2_with fail;refine(zJR b rb cap k rs ⟨#[110,117,108,108]⟩ _ s2 zRr (by decide)).mono ?_;rintro e w3 ⟨k3,rfl,g1,g2,hk3⟩;rw[z6R]at*;have g3:=q2.trans g2;have hblk:=zpH g3 (by simp;omega);have c0:=zBk hblk 0;have c1:=zBk hblk 1;have c2:=zBk hblk 2;have f0:=zBn hblk 0;have f1:=zBn hblk 1;have f2:=zBn hblk 2;simp at c0 c1 c2;clear hblk;cases hE:eats zrC (rs.drop k)with
 |true=>
   have hkk:k3=k+4:=hk3 hE;have HX:Hid (zFD (rs.drop k)=some ((0,0,[]),rs.drop k3)):=by
    rw[HV.out,if_pos hE,List.drop_drop,hkk];exact rfl
   clear hE HV hk3 hkk;go_wp2;obtain⟨s1,s2⟩:=fin3 hbw hrw rfl g1 g3 (.int .i64 0) (.int .i64 0) (.string ⟨#[]⟩);exact bodyPost_ret (v:=.tuple #[aggV (0,0,[]),.bool true]) (by simp[results,results170,go_sem,c0,c1,c2,aggV]) rfl ⟨k3,s1,s2,Or.inl ⟨_,HX.out,rfl⟩⟩
 |false=>
   have HX:Hid (zFD (rs.drop k)=none):=(by rw[HV.out,if_neg (by simp[hE])];exact rfl);clear hE HV hk3;go_wp2;obtain⟨s1,s2⟩:=fin3 hbw hrw rfl g1 g3 (.int .i64 0) (.int .i64 0) (.string ⟨#[]⟩);exact bodyPost_ret (v:=.tuple #[aggV (0,0,[]),.bool false]) (by simp[results,results170,go_sem,c0,c1,c2,aggV]) rfl ⟨k3,s1,s2,Or.inr ⟨HX.out,_,rfl⟩⟩
theorem zt4 (b rb cap k:Nat) (rs:List Nat) (w:World) (hs:Scan w b rb cap rs k) (he:Errs w) (hb:10≤b) (h1:(zEH (rs.drop k)==34)=false) (h2:(zEH (rs.drop k)==116)=false)
 (h3:(zEH (rs.drop k)==102)=false) (h4:(zEH (rs.drop k)==110)=false):
 Calls prog 170 #[.pointer (some ⟨b,0,none⟩)] w fun e w'=>zjr b rb cap k rs w e w':=by
 have HV:Hid (zFD (rs.drop k)=(match intP (rs.drop k)with|some (n,r)=>some ((1,n,[]),r)|none=>none)):=by
  unfold zFD;rw[h1,h2,h3,h4];exact rfl
 have hbw:=hs.bLt;have hrw:=hs.rbLt;have heW:=he.lt;go_enter func170,ntmps170;go_wp2_with fail;refine(zPf b rb cap k rs _ (hs.alloc _)).mono ?_;rintro e w1 ⟨rfl,n,rfl⟩;have he1:Errs ((w.alloc (.cells #[.int .i64 0,.int .i64 0,.string ⟨#[]⟩] 244)).drewN n):=he.kept (S:=[]) (((Kept.refl _ _).alloc _).drewN n) (by simp);go_wp2_with fail;refine(z8e b rb cap k rs _ ((hs.alloc _).drewN n) he1 hb).mono ?_;clear h1 h2 h3 h4;rintro e w2 ⟨k2,g1,g2,⟨v,hv,rfl⟩|⟨hv,rfl⟩⟩
 all_goals
  have g3:Kept [b] (w.alloc (.cells #[.int .i64 0,.int .i64 0,.string ⟨#[]⟩] 244)) w2:=((Kept.refl _ _).drewN n).trans g2;have hsz:=g3.size;simp at hsz;go_wp2_with fail;refine(zJc 1 _ _).mono ?_;rintro e w3 ⟨rfl,hb3⟩;have g4:Kept [b] (w.alloc (.cells #[.int .i64 0,.int .i64 0,.string ⟨#[]⟩] 244)) w3:=g3.step hb3 (by simp;omega);have g5:Scan w3 b rb cap rs k2:=g1.below hb3 (by omega) (by omega);clear hb3;have hblk:=zpH g4 (by simp;omega);have c0:=zBk hblk 0;have c1:=zBk hblk 1;have c2:=zBk hblk 2;have f0:=zBn hblk 0;have f1:=zBn hblk 1;have f2:=zBn hblk 2;simp at c0 c1 c2;clear hblk
 ·have HX:Hid (zFD (rs.drop k)=some ((1,v,[]),rs.drop k2)):=by rw[HV.out,hv];exact rfl
  clear hv HV;go_wp2;obtain⟨s1,s2⟩:=fin3 hbw hrw rfl g5 g4 (.int .i64 1) (.int .i64 v) (.string ⟨#[]⟩);exact bodyPost_ret (v:=.tuple #[aggV (1,v,[]),.bool true]) (by simp[results,results170,go_sem,c0,c1,c2,aggV]) rfl ⟨k2,s1,s2,Or.inl ⟨_,HX.out,rfl⟩⟩
 ·have HX:Hid (zFD (rs.drop k)=none):=by rw[HV.out,hv];exact rfl
  clear hv HV;go_wp2;obtain⟨s1,s2⟩:=fin3 hbw hrw rfl g5 g4 (.int .i64 1) (.int .i64 0) (.string ⟨#[]⟩);exact bodyPost_ret (v:=.tuple #[aggV (1,0,[]),.bool false]) (by simp[results,results170,go_sem,c0,c1,c2,aggV]) rfl ⟨k2,s1,s2,Or.inr ⟨HX.out,_,rfl⟩⟩
theorem zfj (b rb cap k:Nat)(rs:List Nat)(w:World)(hs:Scan w b rb cap rs k)(he:Errs w)(hb:10≤b):
 Calls prog 170 #[.pointer (some ⟨b,0,none⟩)] w fun e w'=>zjr b rb cap k rs w e w':=by
 by_cases h1:zEH (rs.drop k)=34
 ·exact zmb b rb cap k rs w hs h1
 by_cases h2:zEH (rs.drop k)=116
 ·exact z97 b rb cap k rs w hs h2
 by_cases h3:zEH (rs.drop k)=102
 ·exact zaS b rb cap k rs w hs h3
 by_cases h4:zEH (rs.drop k)=110
 ·exact zfh b rb cap k rs w hs h4
 exact zt4 b rb cap k rs w hs he hb (by simpa using h1) (by simpa using h2) (by simpa using h3) (by simpa using h4)
abbrev Mem:=List UInt8×Int×Int×List UInt8
def zcL (l:List Nat):Option (Mem×List Nat):=
 match zgn l with
 |none=>none
 |some (name,r1)=>if(zEH (zek r1)==58)then(match zFD (zek (zek r1).tail)with
  |none=>none
  |some (v,r4)=>some ((name,v),zek r4))else none
def aggM (m:Mem):Value:=.agg #[.string ⟨m.1.toArray⟩,.int .i64 m.2.1,.int .i64 m.2.2.1,.string ⟨m.2.2.2.toArray⟩]
def zuy (b rb cap k:Nat)(rs:List Nat)(w:World)(e:Ending)(w':World):Prop:=
 ∃k',Scan w' b rb cap rs k'∧Kept [b] w w'∧((∃v,zcL (rs.drop k)=some (v,rs.drop k')∧e=.returned (.tuple #[aggM v,.bool true]))∨
  (zcL (rs.drop k)=none∧∃v,e=.returned (.tuple #[aggM v,.bool false])))
theorem fin4 {w w2:World}{b rb cap k2 r:Nat}{rs:List Nat}(hs0:b<w.heap.size)(hr0:rb<w.heap.size)(hr:w.heap.size≤r)(g1:Scan w2 b rb cap rs k2)(k0:Kept [b] w w2)(x y z u:Value):
 Scan ((((w2.setCell ⟨r,0,none⟩ x).setCell ⟨r,1,none⟩ y).setCell ⟨r,2,none⟩ z).setCell ⟨r,3,none⟩ u) b rb cap rs k2∧Kept [b] w ((((w2.setCell ⟨r,0,none⟩ x).setCell ⟨r,1,none⟩ y).setCell ⟨r,2,none⟩ z).setCell ⟨r,3,none⟩ u):=by
 have h1:b≠r:=by omega
 have h2:rb≠r:=by omega
 exact⟨(((g1.setR (p:=⟨r,0,none⟩) h1 h2 x).setR (p:=⟨r,1,none⟩) h1 h2 y).setR (p:=⟨r,2,none⟩) h1 h2 z).setR (p:=⟨r,3,none⟩) h1 h2 u,(((k0.setCell (p:=⟨r,0,none⟩) (Or.inr hr) x).setCell (p:=⟨r,1,none⟩) (Or.inr hr) y).setCell (p:=⟨r,2,none⟩) (Or.inr hr) z).setCell (p:=⟨r,3,none⟩) (Or.inr hr) u⟩
def rblk (w:World)(r:Nat):Prop:=w.heap[r]?=some (.cells #[.string ⟨#[]⟩,.int .i64 0,.int .i64 0,.string ⟨#[]⟩] 246 (0,0))
theorem rblk.c {w:World}{r:Nat}(h:rblk w r):w.cell? ⟨r,0,none⟩=some (.string ⟨#[]⟩)∧w.cell? ⟨r,1,none⟩=some (.int .i64 0)∧w.cell? ⟨r,2,none⟩=some (.int .i64 0)∧w.cell? ⟨r,3,none⟩=some (.string ⟨#[]⟩):=
 ⟨by rw[zBk h];rfl,by rw[zBk h];rfl,by rw[zBk h];rfl,by rw[zBk h];rfl⟩
theorem rblk.f {w:World}{r:Nat}(h:rblk w r):w.frozen? ⟨r,0,none⟩=false∧w.frozen? ⟨r,1,none⟩=false∧w.frozen? ⟨r,2,none⟩=false∧w.frozen? ⟨r,3,none⟩=false:=
 ⟨zBn h _,zBn h _,zBn h _,zBn h _⟩
theorem rblk.kept {w w':World}{r:Nat}{S:List Nat}(h:rblk w r)(k:Kept S w w')(hr:r∉S):rblk w' r:=(k.block r (zBq h) hr).trans h
theorem rblk.new (w:World):rblk (w.alloc (.cells #[.string ⟨#[]⟩,.int .i64 0,.int .i64 0,.string ⟨#[]⟩] 246)) w.heap.size:=by
 show(w.heap.push _)[w.heap.size]?=_;simp
theorem rblk.alloc {w:World}{r:Nat}(h:rblk w r)(o:Obj):rblk (w.alloc o) r:=(Below.heap_alloc _ _ _ (zBq h)).trans h
theorem zam (b rb cap k:Nat)(rs:List Nat)(w:World)(hs:Scan w b rb cap rs k)(he:Errs w)(hb:10≤b):
 Calls prog 145 #[.pointer (some ⟨b,0,none⟩)] w fun e w'=>zuy b rb cap k rs w e w':=by
 have hbw:=hs.bLt;have hrw:=hs.rbLt;have heW:=he.lt;go_enter func145,ntmps145;go_wp2_with fail;refine(zTu b rb cap k rs _ (hs.alloc _)).mono ?_;rintro e w1 ⟨k1,g1,g2,⟨nm,hn,hl,rfl⟩|⟨hn,rfl⟩⟩
 all_goals
  have q1:Kept [b] w w1:=((Kept.refl _ _).alloc _).trans g2;have r1:rblk w1 w.heap.size:=(rblk.new w).kept g2 (by simp;omega);clear g2
 ·have HN:Hid (zgn (rs.drop k)=some (nm,rs.drop k1)):=hn;clear hn;go_wp2_with fail;refine(zn7 b rb cap k1 rs _ g1).mono ?_;rintro e w2 ⟨rfl,k2,hk2,hk12,g3,g4⟩;have q2:=q1.trans g4;have r2:=r1.kept g4 (by simp;omega);have H2:Hid (rs.drop k2=zek (rs.drop k1)):=hk2;clear hk2 hk12 g4 g1 q1 r1;by_cases hc:zEH (rs.drop k2)=58
  ·have H2p:Hid (rs.drop (k2+1)=(zek (rs.drop k1)).tail):=(by rw[←H2.out,tail_drop];exact rfl);have HC:Hid ((zEH (zek (rs.drop k1))==58)=true):=(by rw[←H2.out,hc];exact rfl);go_wp2_with fail;refine(z8M b rb cap k2 rs 58 _ g3 hc (by omega)).mono ?_;rintro e w3 ⟨rfl,g5,g6⟩;have q3:=q2.trans g6;have r3:=r2.kept g6 (by simp;omega);clear hc H2 g3 g6 q2 r2;go_wp2_with fail;refine(zn7 b rb cap (k2+1) rs _ g5).mono ?_;rintro e w4 ⟨rfl,k4,hk4,_,g7,g8⟩;have q4:=q3.trans g8;have r4:=r3.kept g8 (by simp;omega);have H4:Hid (rs.drop k4=zek (zek (rs.drop k1)).tail):=(by rw[hk4,H2p.out];exact rfl);have e4:Errs w4:=he.kept q4 (by simpa using hb);clear hk4 H2p g5 g8 q3 r3;go_wp2_with fail;refine(zfj b rb cap k4 rs _ g7 e4 hb).mono ?_;rintro e w5 ⟨k5,g9,g10,⟨v,hv,rfl⟩|⟨hv,v,rfl⟩⟩
   all_goals
    have q5:=q4.trans g10;have r5:=r4.kept g10 (by simp;omega);clear g10 q4 r4 g7 e4;obtain⟨va,vb,vc⟩:=v;unfold aggV
   ·have H5:Hid (zFD (zek (zek (rs.drop k1)).tail)=some ((va,vb,vc),rs.drop k5)):=(by rw[←H4.out,hv];exact rfl);clear hv H4;have hz5:=q5.size;go_wp2_with fail;refine(zn7 b rb cap k5 rs _ (g9.alloc _)).mono ?_;rintro e w6 ⟨rfl,k6,hk6,_,g11,g12⟩;have q6:Kept [b] w w6:=(q5.alloc _).trans g12;have r6:rblk w6 w.heap.size:=(r5.alloc _).kept g12 (by simp;omega);have n6:=zpH g12 (by have:=g9.bLt;simp;omega);have d0:=zBk n6 0;have d1:=zBk n6 1;have d2:=zBk n6 2;have HX:Hid (zcL (rs.drop k)=some ((nm,va,vb,vc),rs.drop k6)):=by
     unfold zcL;rw[HN.out];simp only [HC.out,H5.out,hk6];exact rfl
    clear H5 HC HN hk6 n6 g12;obtain⟨c0,c1,c2,c3⟩:=r6.c;obtain⟨f0,f1,f2,f3⟩:=r6.f;simp at d0 d1 d2;have hne:w5.heap.size≠w.heap.size:=(by have:=zBq r5;omega);clear r6 r5;go_wp2;obtain⟨s1,s2⟩:=fin4 hbw hrw zG g11 q6 (.string ⟨nm.toArray⟩) (.int .i64 va) (.int .i64 vb) (.string ⟨vc.toArray⟩);exact bodyPost_ret (v:=.tuple #[aggM (nm,va,vb,vc),.bool true]) (by simp[results,results145,go_sem,c0,c1,c2,c3,aggM]) rfl ⟨k6,s1,s2,Or.inl ⟨_,HX.out,rfl⟩⟩
   ·have HX:Hid (zcL (rs.drop k)=none):=by
     unfold zcL;rw[HN.out];simp only [HC.out,←H4.out,hv];exact rfl
    clear hv H4 HC HN;obtain⟨c0,c1,c2,c3⟩:=r5.c;obtain⟨f0,f1,f2,f3⟩:=r5.f;have hne:=zBq r5;clear r5;go_wp2;obtain⟨s1,s2⟩:=fin4 hbw hrw zG g9 q5 (.string ⟨#[]⟩) (.int .i64 0) (.int .i64 0) (.string ⟨#[]⟩);exact bodyPost_ret (v:=.tuple #[aggM ([],0,0,[]),.bool false]) (by simp[results,results145,go_sem,c0,c1,c2,c3,hne,aggM]) rfl ⟨k5,s1.alloc _,s2.alloc _,Or.inr ⟨HX.out,_,rfl⟩⟩
  ·have HC:Hid ((zEH (zek (rs.drop k1))==58)=false):=(by rw[←H2.out];simp[hc,Hid]);have HX:Hid (zcL (rs.drop k)=none):=by
    unfold zcL;rw[HN.out];simp only [HC.out];exact rfl
   go_wp2_with fail;refine(zZ5 b rb cap k2 rs 58 _ g3 hc).mono ?_;rintro e w3 ⟨rfl,n3,rfl⟩;clear hc HC H2 HN;obtain⟨c0,c1,c2,c3⟩:=r2.c;obtain⟨f0,f1,f2,f3⟩:=r2.f;go_wp2;obtain⟨s1,s2⟩:=fin4 hbw hrw zG (g3.drewN n3) (q2.drewN n3) (.string ⟨#[]⟩) (.int .i64 0) (.int .i64 0) (.string ⟨#[]⟩);exact bodyPost_ret (v:=.tuple #[aggM ([],0,0,[]),.bool false]) (by simp[results,results145,go_sem,c0,c1,c2,c3,aggM]) rfl ⟨k2,s1,s2,Or.inr ⟨HX.out,_,rfl⟩⟩
 ·have HX:Hid (zcL (rs.drop k)=none):=by
   unfold zcL;rw[hn];exact rfl
  clear hn;obtain⟨c0,c1,c2,c3⟩:=r1.c;obtain⟨f0,f1,f2,f3⟩:=r1.f;go_wp2;obtain⟨s1,s2⟩:=fin4 hbw hrw zG g1 q1 (.string ⟨#[]⟩) (.int .i64 0) (.int .i64 0) (.string ⟨#[]⟩);exact bodyPost_ret (v:=.tuple #[aggM ([],0,0,[]),.bool false]) (by simp[results,results145,go_sem,c0,c1,c2,c3,aggM]) rfl ⟨k1,s1,s2,Or.inr ⟨HX.out,_,rfl⟩⟩
end Go.Proofs.YtbbkihekjdffpaaGreatDoor
