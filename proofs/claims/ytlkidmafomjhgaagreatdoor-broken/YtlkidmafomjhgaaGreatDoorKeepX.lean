/- Several texts in one. -/
import Derived.Test.YtlkidmafomjhgaaGreatDoorKeepF
import Derived.Deep.RegionHeld3
set_option maxHeartbeats 4000000
set_option maxRecDepth 100000
namespace Go.Proofs.YtlkidmafomjhgaaGreatDoor.keep
open Go.RowKit

def zf6 (k n:Int):Prop:=k=0∧n=0
def zio (k n:Int):Prop:=k=1∧small n
def zKe (k n:Int):Prop:=k=2∧(n=0∨n=1)
def zxk (i k:Nat) (kk nn:Int):Prop:=match i,k with
 | 0,0=>zio kk nn | 0,1=>zf6 kk nn | 0,_=>zKe kk nn
 | 1,0=>zio kk nn∨zf6 kk nn | 1,1=>zf6 kk nn | 1,_=>zKe kk nn
 | 2,0=>zf6 kk nn | 2,_=>zio kk nn∨zf6 kk nn
 | _,_=>zKe kk nn
def loN (i:Nat):Nat:=if i=0 then 1 else 0
def zhe (l:List (List UInt8)):List UInt8:=l.flatMap (fun x=>x++[10])
theorem text_any (oa:Option Addr) (cap:Nat) (ls:List (List UInt8)) (w:World) (hr:ls≠[]→∃ g,oa=some ⟨g,0,none⟩∧SRow w g ls) (hl:ls.length≤1000) (hll:∀ l∈ls,l.length≤1000000):
 Calls Tryz.prog 12 #[.slice oa ls.length cap] w fun e w'=>e=.returned (.string ⟨(zhe ls).toArray⟩)∧Below w.heap.size w w':=by
 go_enter Tryz.func12,Tryz.ntmps12
 go_wp2
 go_loopw [3,4] (fun s i wr=>∃ (j:Nat),s=.string ⟨(zhe (ls.take j)).toArray⟩∧i=.int .i64 (j:Int)∧j≤ls.length∧(zhe (ls.take j)).length≤1000001*j∧Below w.heap.size w wr) (fun _ i _=>ls.length - (intOf i).toNat)
 case atStart=>exact ⟨0,rfl,rfl,by omega,by simp [zhe],Below.refl _ _⟩
 case round=>
  obtain ⟨j,rfl,rfl,hj,htl,hbl⟩:=hrel
  by_cases hin:j < ls.length
  · have hin':(j:Int) < (ls.length:Int):=by omega
    obtain ⟨g,rfl,hg⟩:=hr (by intro h;rw [h] at hin;simp at hin)
    have hc:=(hbl.cell (p:=⟨g,j,none⟩) hg.1).trans (hg.2 j ls[j] (List.getElem?_eq_getElem hin))
    have hxl:=hll _ (List.getElem_mem hin)
    have hE:Hid (zhe (ls.take (j+1))=zhe (ls.take j)++ls[j]++[10]):=by
     show _=_
     rw [List.take_succ_eq_append_getElem hin]
     unfold zhe
     rw [List.flatMap_append]
     simp only [List.flatMap_cons,List.flatMap_nil,List.append_nil,List.append_assoc]
    generalize ls[j]=x at*
    generalize hT:zhe (ls.take j)=T at*
    go_wp2
    go_roundw
    case rel=>exact ⟨j+1,by rw [hE.out,←zAs,←zAs],by go_num,by omega,by rw [hE.out];simp;omega,hbl⟩
    case measure=>simp [intOf];omega
  · obtain rfl:j=ls.length:=by omega
    have hin':¬ (ls.length:Int) < (ls.length:Int):=by omega
    rw [List.take_length]
    go_wp2
    go_ret
    exact ⟨rfl,hbl⟩

def mRet (id:Int):List UInt8:=[34,114,101,116,34,58]++sgnP id
def mVal (k n:Int):List UInt8:=[34,118,97,108,34,58]++zTS k n
def zZ7 (id vk vn:Int) (d:List Int):List UInt8×List Int:=zZ9 [mRet id,mVal vk vn] d
theorem zfoB (k n:Int) (h:zWP k n):(zTS k n).length≤7:=by
 unfold zTS
 rcases h with ⟨rfl,rfl⟩ | ⟨rfl,h1,h2⟩ | ⟨rfl,rfl | rfl⟩
 · decide
 · rw [if_pos rfl];exact zkB n h1 h2
 · decide
 · decide
theorem zZm (W:World) (l:List ByteArray) (ms:List (List UInt8)) (h:l=ms.map fun m=>⟨m.toArray⟩):SRow (W.alloc (.cells (l.map Value.string).toArray 9)) W.heap.size ms:=by
 subst h
 have hb:=ziF W (.cells ((ms.map fun m=>(⟨m.toArray⟩:ByteArray)).map Value.string).toArray 9) W.heap.size rfl
 refine ⟨zCqB hb,fun j x hj=>?_⟩
 rw [zBk hb]
 simp [hj]
theorem z2S (b:Nat) (sv:Value) (code d:List Int) (m1 m2:List UInt8) (x y:ByteArray) (W:World) (hd:Dice W b sv code d) (hx:x=⟨m1.toArray⟩) (hy:y=⟨m2.toArray⟩) (h1:m1.length≤1000) (h2:m2.length≤1000):
 Calls Tryz.prog 33 #[.pointer (some ⟨b,0,none⟩),.slice (some ⟨W.heap.size,0,none⟩) 2 2] (W.alloc (.cells #[.string x,.string y] 9)) fun e w'=>
  e=.returned (.string ⟨(zZ9 [m1,m2] d).1.toArray⟩)∧Dice w' b sv code (zZ9 [m1,m2] d).2∧Kept [b] W w':=by
 have hlt:=hd.lt
 have hbl:Below W.heap.size W (W.alloc (.cells #[.string x,.string y] 9)):=(Below.refl _ _).alloc (Nat.le_refl _) _
 refine (zkk b W.heap.size 2 sv code d [m1,m2] (W.alloc (.cells #[.string x,.string y] 9)) (hd.below hbl) (zZm W [x,y] [m1,m2] (by simp [hx,hy])) (by omega) (by simp) (by simp) (by intro m hm;simp at hm;rcases hm with rfl | rfl <;> assumption)).mono ?_
 rintro e w' ⟨rfl,hd',hk⟩
 exact ⟨rfl,hd',(Kept.of_below hbl).trans hk⟩
theorem zRZ (b:Nat) (sv:Value) (code d:List Int) (id cl:Int) (name key:List UInt8) (arg exp call ret vk vn:Int) (w:World) (hd:Dice w b sv code d) (hi0: -1000000 < id) (hi1:id < 1000000) (hv:zWP vk vn):
 Calls Tryz.prog 21 #[.pointer (some ⟨b,0,none⟩),opA id cl name key arg exp call ret vk vn] w fun e w'=>
  e=.returned (.string ⟨(zZ7 id vk vn d).1.toArray⟩)∧Dice w' b sv code (zZ7 id vk vn d).2∧Kept [b] w w':=by
 unfold opA
 obtain ⟨W,hW,hb,hO⟩:∃ W,w.alloc (.cells #[.int .i64 id,.int .i64 cl,.string ⟨name.toArray⟩,.string ⟨key.toArray⟩,.int .i64 arg,.int .i64 exp,.int .i64 call,.int .i64 ret,.int .i64 vk,.int .i64 vn] 48)=W∧Below w.heap.size w W∧W.heap[w.heap.size]?=some (.cells #[.int .i64 id,.int .i64 cl,.string ⟨name.toArray⟩,.string ⟨key.toArray⟩,.int .i64 arg,.int .i64 exp,.int .i64 call,.int .i64 ret,.int .i64 vk,.int .i64 vn] 48 (0,0)):=
  ⟨_,rfl,(Below.refl _ _).alloc (Nat.le_refl _) _,ziF _ _ _ rfl⟩
 have hd1:=hd.below hb
 have c0:W.cell? ⟨w.heap.size,0,none⟩=some (.int .i64 id):=by rw [zBk hO];rfl
 have c8:W.cell? ⟨w.heap.size,8,none⟩=some (.int .i64 vk):=by rw [zBk hO];rfl
 have c9:W.cell? ⟨w.heap.size,9,none⟩=some (.int .i64 vn):=by rw [zBk hO];rfl
 have hltW:=zCqB hO
 have hltb:=hd.lt
 have hnb:w.heap.size∉[b]:=by simp;omega
 have hs1:=zkB id hi0 hi1
 have hs2:=zfoB vk vn hv
 have hm1:(mRet id).length≤1000:=by simp [mRet];omega
 have hz1:(9223372036854775807 < 6+(sgnP id).length)=False:=by simp;omega
 have hz2:(9223372036854775807 < 6+(zTS vk vn).length)=False:=by simp;omega
 have hm2:(mVal vk vn).length≤1000:=by simp [mVal];omega
 go_enter Tryz.func21,Tryz.ntmps21
 go_wp2_with fail
 go_region_held3 (fun w'=>w'.cell? ⟨w.heap.size,0,none⟩=some (.int .i64 id)∧w'.cell? ⟨w.heap.size,8,none⟩=some (.int .i64 vk)∧w'.cell? ⟨w.heap.size,9,none⟩=some (.int .i64 vn)) (go_keep) (first
  | (go_at_call 22;refine (zT1 id _ hi0 hi1).mono ?_;rintro e w2 ⟨rfl,hb2⟩;have d0:=(hb2.cell (p:=⟨w.heap.size,0,none⟩) hltW).trans c0;have d8:=(hb2.cell (p:=⟨w.heap.size,8,none⟩) hltW).trans c8;have d9:=(hb2.cell (p:=⟨w.heap.size,9,none⟩) hltW).trans c9;have hlt2:=Nat.lt_of_lt_of_le hltW hb2.size;have hd2:=(hd1.drewN 1).below hb2)
  | (go_at_call 34;refine (zMxv vk vn _ hv).mono ?_;rintro e w3 ⟨rfl,hb3⟩;have e0:=(hb3.cell (p:=⟨w.heap.size,0,none⟩) hlt2).trans d0;have e8:=(hb3.cell (p:=⟨w.heap.size,8,none⟩) hlt2).trans d8;have e9:=(hb3.cell (p:=⟨w.heap.size,9,none⟩) hlt2).trans d9;have hlt3:=Nat.lt_of_lt_of_le hlt2 hb3.size;have hd3:=hd2.below hb3)
  | (go_at_call 33;refine (z2S b sv code d (mRet id) (mVal vk vn) _ _ w3 hd3 (zAs _ _) (zAs _ _) hm1 hm2).mono ?_;rintro e w4 ⟨rfl,hd4,hk4⟩;have f0:=(hk4.cell (p:=⟨w.heap.size,0,none⟩) hlt3 hnb).trans e0;have f8:=(hk4.cell (p:=⟨w.heap.size,8,none⟩) hlt3 hnb).trans e8;have f9:=(hk4.cell (p:=⟨w.heap.size,9,none⟩) hlt3 hnb).trans e9))
 all_goals
  go_wp2
  go_ret
  exact ⟨rfl,hd4,(Kept.of_below (S:=[b]) (((hb.drew).trans (hb2.mono (by simpa using hb.size))).trans (hb3.mono (Nat.le_trans hb.size hb2.size)))).trans (hk4.mono (by simp))⟩

def mCall (b0:List UInt8) (id:Int):List UInt8:=[34,99,97,108,108,34]++b0++[58]++b0++sgnP id
def mBy (cl:Int):List UInt8:=[34,98,121,34,58]++sgnP cl
def mOp (name:List UInt8):List UInt8:=[34,111,112,34,58,34]++name++[34]
def mKey (s:List UInt8):List UInt8:=[34,107,101,121,34,58,34]++s++[34]
def mExp (n:Int):List UInt8:=[34,101,120,112,34,58]++sgnP n
def mArg (n:Int):List UInt8:=[34,97,114,103,34,58]++sgnP n
def zdF (kd:Bool) (id cl:Int) (name:List UInt8) (arg exp:Int) (k:Nat) (d:List Int):List UInt8×List Int:=
 let d1:=(blankP d).2
 let l:=[mCall (blankP d).1 id,mBy cl,mOp name]++(if kd then [mKey (zPM k d1).1] else [])++(if name=[99,97,115] then [mExp exp,mArg arg] else if name=[119,114,105,116,101]∨name=[112,117,116]∨name=[101,110,113] then [mArg arg] else [])
 zZ9 l (if kd then (zPM k d1).2 else d1)
theorem z6i (w:World) (base:Nat) (l:List (List UInt8)) (hb:base≤w.heap.size) (hl:l.length≤1000) (v:Value) (hv:v=.slice (some ⟨w.heap.size,0,none⟩) l.length l.length):(w.alloc (.cells (strCells l).toArray 9)).ownsRow base 9 1 v l.length (strCells l):=by
 subst hv
 refine ⟨by simp [strCells],.inr ⟨w.heap.size,l.length,(strCells l).toArray,rfl,hb,ziF _ _ _ rfl,Nat.le_refl _,by unfold maxLen;omega,by simp [strCells],?_⟩⟩
 show ((strCells l).toArray.toList).take (l.length*1)=strCells l
 rw [List.take_of_length_le (by simp [strCells])]
theorem z3D (k p:Nat):(spS k p).length≤18:=by
 unfold spS;split <;> simp

theorem zLA (b:Nat) (sv:Value) (code d:List Int) (i:Nat) (hi:i < 5) (id cl:Int) (name key:List UInt8) (arg exp call ret vk vn:Int) (k:Nat) (hk:k < 3) (w:World) (hd:Dice w b sv code d) (hi0: -1000000 < id) (hi1:id < 1000000) (hcl:small cl) (ha:small arg) (he:small exp) (hnl:name.length≤5):
 Calls Tryz.prog 30 #[.pointer (some ⟨b,0,none⟩),opA id cl name key arg exp call ret vk vn,.int .i64 (k:Int),.string ⟨(modS i).toArray⟩] w fun e w'=>
  e=.returned (.string ⟨(zdF (zSt i) id cl name arg exp k d).1.toArray⟩)∧Dice w' b sv code (zdF (zSt i) id cl name arg exp k d).2∧Kept [b] w w':=by
 obtain ⟨R,HR,hRe⟩:∃ R,Hid (R=zZ9 ([mCall (blankP d).1 id,mBy cl,mOp name]++(if zSt i=true then [mKey (zPM k (blankP d).2).1] else [])++(if name=[99,97,115] then [mExp exp,mArg arg] else if name=[119,114,105,116,101]∨name=[112,117,116]∨name=[101,110,113] then [mArg arg] else [])) (if zSt i=true then (zPM k (blankP d).2).2 else (blankP d).2))∧zdF (zSt i) id cl name arg exp k d=R:=⟨_,rfl,rfl⟩
 rw [hRe]
 clear hRe
 unfold opA
 obtain ⟨W,hW,hb,hO⟩:∃ W,w.alloc (.cells #[.int .i64 id,.int .i64 cl,.string ⟨name.toArray⟩,.string ⟨key.toArray⟩,.int .i64 arg,.int .i64 exp,.int .i64 call,.int .i64 ret,.int .i64 vk,.int .i64 vn] 48)=W∧Below w.heap.size w W∧W.heap[w.heap.size]?=some (.cells #[.int .i64 id,.int .i64 cl,.string ⟨name.toArray⟩,.string ⟨key.toArray⟩,.int .i64 arg,.int .i64 exp,.int .i64 call,.int .i64 ret,.int .i64 vk,.int .i64 vn] 48 (0,0)):=
  ⟨_,rfl,(Below.refl _ _).alloc (Nat.le_refl _) _,ziF _ _ _ rfl⟩
 have hd1:=hd.below hb
 have hltb:=hd.lt
 have hzW:=hb.size
 have hnb:w.heap.size∉[b]:=by simp;omega
 have hbk:=zf5 b sv code d W hd1
 have hbl0:=za4 d
 generalize (blankP d).1=b0 at*
 generalize (blankP d).2=d1 at*
 go_enter Tryz.func30,Tryz.ntmps30
 go_wp2_with fail
 refine hbk.mono ?_
 rintro e w1 ⟨rfl,hd2,hk2⟩
 have hO1:=(hk2.block w.heap.size (zCqB hO) hnb).trans hO
 have hltO:=zCqB hO1
 have c0:w1.cell? ⟨w.heap.size,0,none⟩=some (.int .i64 id):=by rw [zBk hO1];rfl
 have c1:w1.cell? ⟨w.heap.size,1,none⟩=some (.int .i64 cl):=by rw [zBk hO1];rfl
 have c2:w1.cell? ⟨w.heap.size,2,none⟩=some (.string ⟨name.toArray⟩):=by rw [zBk hO1];rfl
 have hs1:=zkB id hi0 hi1
 have hs2:=zkB cl (by have:=hcl.1;omega) (by have:=hcl.2;omega)
 have hsg1:=fun W=>zT1 id W hi0 hi1
 have hsg2:=fun W=>zT1 cl W (by have:=hcl.1;omega) (by have:=hcl.2;omega)
 clear hbk hW hd hd1
 have z1:(9223372036854775807 < 6+b0.length)=False:=by simp;omega
 have z2:(9223372036854775807 < 6+b0.length+1)=False:=by simp;omega
 have z3:(9223372036854775807 < 6+b0.length+1+b0.length)=False:=by simp;omega
 have z4:(9223372036854775807 < 6+b0.length+1+b0.length+(sgnP id).length)=False:=by simp;omega
 have z5:(9223372036854775807 < 5+(sgnP cl).length)=False:=by simp;omega
 have z6:(9223372036854775807 < 6+name.length)=False:=by simp;omega
 have z7:(9223372036854775807 < 6+name.length+1)=False:=by simp;omega
 go_wp2_with fail
 go_cut [10] (fun a wx=>∃ g,a=.slice (some ⟨g,0,none⟩) 3 3∧wx.ownsRow (w.heap.size+1) 9 1 a 3 (strCells [mCall b0 id,mBy cl,mOp name])∧Below w1.heap.size w1 wx)
 case first=>
  go_region_held3 (fun w'=>w'.cell? ⟨w.heap.size,0,none⟩=some (.int .i64 id)∧w'.cell? ⟨w.heap.size,1,none⟩=some (.int .i64 cl)∧w'.cell? ⟨w.heap.size,2,none⟩=some (.string ⟨name.toArray⟩)) (go_keep) (first
   | (go_at_call 22;have hq:=d0;refine (hsg2 _).mono ?_;rintro e w3 ⟨rfl,hb3⟩;have e0:=(hb3.cell (p:=⟨w.heap.size,0,none⟩) hlt2).trans d0;have e1:=(hb3.cell (p:=⟨w.heap.size,1,none⟩) hlt2).trans dd1;have e2:=(hb3.cell (p:=⟨w.heap.size,2,none⟩) hlt2).trans dd2;have hlt3:=Nat.lt_of_lt_of_le hlt2 hb3.size)
   | (go_at_call 22;refine (hsg1 _).mono ?_;rintro e w2 ⟨rfl,hb2⟩;have d0:=(hb2.cell (p:=⟨w.heap.size,0,none⟩) hltO).trans c0;have dd1:=(hb2.cell (p:=⟨w.heap.size,1,none⟩) hltO).trans c1;have dd2:=(hb2.cell (p:=⟨w.heap.size,2,none⟩) hltO).trans c2;have hlt2:=Nat.lt_of_lt_of_le hltO hb2.size))
  all_goals
   go_wp2_with fail
   go_meet
   have y1:((⟨#[34,99,97,108,108,34]⟩:ByteArray)++⟨b0.toArray⟩++⟨#[58]⟩++⟨b0.toArray⟩++⟨(sgnP id).toArray⟩)=⟨(mCall b0 id).toArray⟩:=by
    show ((⟨[34,99,97,108,108,34].toArray⟩:ByteArray)++⟨b0.toArray⟩++⟨[58].toArray⟩++⟨b0.toArray⟩++⟨(sgnP id).toArray⟩)=_
    simp only [zAs];rfl
   have y2:((⟨#[34,98,121,34,58]⟩:ByteArray)++⟨(sgnP cl).toArray⟩)=⟨(mBy cl).toArray⟩:=zAs [34,98,121,34,58] (sgnP cl)
   have y3:((⟨#[34,111,112,34,58,34]⟩:ByteArray)++⟨name.toArray⟩++⟨#[34]⟩)=⟨(mOp name).toArray⟩:=by
    show ((⟨[34,111,112,34,58,34].toArray⟩:ByteArray)++⟨name.toArray⟩++⟨[34].toArray⟩)=_
    simp only [zAs];rfl
   rw [y1,y2,y3]
   have hb23:Below w1.heap.size w1 w3:=((Below.refl _ _).drew.trans hb2).trans (hb3.mono hb2.size)
   exact ⟨w3.heap.size,rfl,z6i w3 (w.heap.size+1) [mCall b0 id,mBy cl,mOp name] (by have:=hb23.size;have:=hk2.size;have:=zCqB hO;omega) (by simp) _ rfl,hb23.alloc hb23.size _⟩
 case rest=>
  obtain ⟨g,rfl,hown,hbx⟩:=hcut
  have hd3:=hd2.below hbx
  have hO3:=(hbx.block w.heap.size hltO).trans hO1
  have hk3:Kept [b] W wc:=hk2.trans (Kept.of_below hbx)
  have hlt3:=zCqB hO3
  have hlm:(mCall b0 id).length≤1000∧(mBy cl).length≤1000∧(mOp name).length≤1000:=⟨by simp [mCall];omega,by simp [mBy];omega,by simp [mOp];omega⟩
  have hkdd:=zUa i hi
  clear z1 z2 z3 z4 z5 z6 z7 c0 c1 c2 hO1 hltO hsg1 hsg2 hbx hd2 hk2 hO
  have hlm3:∀ m∈[mCall b0 id,mBy cl,mOp name],m.length≤1000:=by intro m hm;simp at hm;rcases hm with rfl | rfl | rfl;exact hlm.1;exact hlm.2.1;exact hlm.2.2
  have hl33:[mCall b0 id,mBy cl,mOp name].length=3:=rfl
  generalize hL3:[mCall b0 id,mBy cl,mOp name]=l3 at*
  have HL3:Hid ([mCall b0 id,mBy cl,mOp name]=l3):=hL3
  clear hL3
  have hKw:Kept [b] w wc:=(Kept.of_below hb).trans hk3
  obtain ⟨i0,hi0',hz0,hz1,hz2⟩:=info_parts strInfo
  clear hk3 hlm
  go_wp2_with fail
  refine (hkdd _).mono ?_
  rintro e w5 ⟨rfl,hw⟩
  have hw':=hw.symm
  clear hw hkdd
  subst hw'
  obtain ⟨l4,d4,hl4,hD4,hlm4,hl44⟩:∃ (l4:List (List UInt8)) (d4:List Int),Hid (l3++(if zSt i=true then [mKey (zPM k d1).1] else [])=l4)∧Hid ((if zSt i=true then (zPM k d1).2 else d1)=d4)∧(∀ m∈l4,m.length≤1000)∧3≤l4.length∧l4.length≤4:=by
   refine ⟨_,_,rfl,rfl,?_,?_,?_⟩
   · intro m hm
     rcases List.mem_append.1 hm with hm | hm
     · exact hlm3 m hm
     · split at hm
       · simp at hm;subst hm
         have:=z3D k (z1S (spN k) d1).1
         show ([34,107,101,121,34,58,34]++(spS k (z1S (spN k) d1).1)++[34]).length≤1000
         simp;omega
       · cases hm
   · simp [hl33]
   · simp only [List.length_append,hl33];split <;> simp
  go_upto_if 32 with fail
  go_cut [10] (fun a wx=>wx.ownsRow (w.heap.size+1) 9 1 a l4.length (strCells l4)∧Dice wx b sv code d4∧Kept [b] w wx∧wx.heap[w.heap.size]?=some (.cells #[.int .i64 id,.int .i64 cl,.string ⟨name.toArray⟩,.string ⟨key.toArray⟩,.int .i64 arg,.int .i64 exp,.int .i64 call,.int .i64 ret,.int .i64 vk,.int .i64 vn] 48 (0,0)))
  case first=>
   cases hkd:zSt i with
   | false=>
     rw [hkd] at hl4 hD4
     have e1:l3=l4:=by have:=hl4.out;simpa using this
     have e2:d1=d4:=hD4.out
     subst e1
     subst e2
     go_wp2_with fail
     go_meet
     exact ⟨by rw [hl33];exact hown,hd3,hKw,hO3⟩
   | true=>
     rw [hkd] at hl4 hD4
     have hsp:=znb k hk b sv code d1 wc hd3
     have hspl:=z3D k (z1S (spN k) d1).1
     have e1:Hid (l4=l3++[mKey (zPM k d1).1]):=hl4.out.symm
     have e2:(zPM k d1).2=d4:=hD4.out
     rw [e2] at hsp
     have hs3:(zPM k d1).1.length≤18:=hspl
     generalize (zPM k d1).1=sp at*
     clear hl4 hD4 e2 hspl
     go_wp2_with fail
     refine hsp.mono ?_
     rintro e w6 ⟨rfl,hd6,hk6⟩
     have own6:=zzF hown hk6 (by simp;omega)
     have hz6:=hk6.size
     have hzc:=hKw.size
     have ym:((⟨#[34,107,101,121,34,58,34]⟩:ByteArray)++⟨sp.toArray⟩++⟨#[34]⟩)=⟨(mKey sp).toArray⟩:=by
      show ((⟨[34,107,101,121,34,58,34].toArray⟩:ByteArray)++⟨sp.toArray⟩++⟨[34].toArray⟩)=_
      simp only [zAs];rfl
     go_wp2_with (at_builtin;refine wpList_append_own _ rfl _ _ 24 rfl (w.heap.size+1) 9 i0 (.string ⟨#[]⟩) 1 16 Tryz.underlying24 hi0' hz0 hz1 hz2 rfl (by decide) _ _ _ rfl (own6.alloc _) ⟨w6.heap.size,0,none⟩ 1 1 [.string (⟨#[34,107,101,121,34,58,34]⟩++⟨sp.toArray⟩++⟨#[34]⟩)] rfl rfl ?c1 ?c2 ?c3 ?c4 ?c5 ?_)
     case c1=>exact zHK _ _ _
     case c2=>intro u hu;simp at hu;subst hu;rfl
     case c3=>unfold maxLen;omega
     case c4=>omega
     case c5=>simp;omega
     intro v7 w7 own7 grow7 _
     have hS6:∀ x∈(Value.slice (some ⟨g,0,none⟩) 3 3).ownBlock.toList,w.heap.size+1≤x:=fun x hx=>zYv own6 x (by simpa using hx)
     have hk7:Kept (Value.slice (some ⟨g,0,none⟩) 3 3).ownBlock.toList w6 w7:=((Kept.refl _ w6).alloc _).grownS grow7 (fun g' hg'=>by rw [hg'];simp)
     have hd7:=hd6.kept hk7 (fun x hx=>by have:=hS6 x hx;omega)
     have hO6:=(hk6.block w.heap.size hlt3 hnb).trans hO3
     have hO7:=(hk7.block w.heap.size (zCqB hO6) (fun hm=>by have:=hS6 _ hm;omega)).trans hO6
     have hK7:Kept [b] w w7:=zh0 (zh0 hKw hk6 (by simp)) hk7 (fun x hx=>Or.inr (by have:=hS6 x hx;omega))
     go_wp2_with fail
     go_meet
     refine ⟨?_,hd7,hK7,hO7⟩
     rw [e1.out,zBt,List.length_append,hl33]
     exact own7
  case rest=>
   obtain ⟨own4,hd4,hK4,hO4⟩:=hcut
   have c2:wc.cell? ⟨w.heap.size,2,none⟩=some (.string ⟨name.toArray⟩):=by rw [zBk hO4];rfl
   have c4:wc.cell? ⟨w.heap.size,4,none⟩=some (.int .i64 arg):=by rw [zBk hO4];rfl
   have c5:wc.cell? ⟨w.heap.size,5,none⟩=some (.int .i64 exp):=by rw [zBk hO4];rfl
   have hz4:=hK4.size
   have HF:Hid (R=zZ9 (l4++(if name=[99,97,115] then [mExp exp,mArg arg] else if name=[119,114,105,116,101]∨name=[112,117,116]∨name=[101,110,113] then [mArg arg] else [])) d4):=by
    show _=_
    rw [HR.out,hl4.out,hD4.out]
   clear hown hd3 hO3 hKw HR
   by_cases h1:name=[99,97,115]
   · skip
     subst h1
     have hsa:=zkB arg (by have:=ha.1;omega) (by have:=ha.2;omega)
     have hse:=zkB exp (by have:=he.1;omega) (by have:=he.2;omega)
     have ya:((⟨#[34,97,114,103,34,58]⟩:ByteArray)++⟨(sgnP arg).toArray⟩)=⟨(mArg arg).toArray⟩:=zAs [34,97,114,103,34,58] (sgnP arg)
     have ye:((⟨#[34,101,120,112,34,58]⟩:ByteArray)++⟨(sgnP exp).toArray⟩)=⟨(mExp exp).toArray⟩:=zAs [34,101,120,112,34,58] (sgnP exp)
     have hma:(mArg arg).length≤1000:=by simp [mArg];omega
     have hme:(mExp exp).length≤1000:=by simp [mExp];omega
     have hfin:Hid (R=zZ9 (l4++[mExp exp,mArg arg]) d4):=HF.out
     have z1:(9223372036854775807 < 6+(sgnP exp).length)=False:=by simp;omega
     have z2:(9223372036854775807 < 6+(sgnP arg).length)=False:=by simp;omega
     have hlt4:=zCqB hO4
     obtain ⟨oa4,cap4,rfl⟩:=zIW own4
     have hAP:∀ W6:World,w.heap.size+1≤W6.heap.size→W6.ownsRow (w.heap.size+1) 9 1 (.slice oa4 l4.length cap4) l4.length (strCells l4)→∃ v7 w7,(Builtin.append_ #[24,24] 24 #[.slice oa4 l4.length cap4,.slice (some ⟨W6.heap.size,0,none⟩) 2 2]).run Tryz.prog (W6.alloc (.cells #[.string ⟨(mExp exp).toArray⟩,.string ⟨(mArg arg).toArray⟩] 9))=.ok v7 w7∧w7.ownsRow (w.heap.size+1) 9 1 v7 (l4.length+2) (strCells l4++[.string ⟨(mExp exp).toArray⟩,.string ⟨(mArg arg).toArray⟩])∧(W6.alloc (.cells #[.string ⟨(mExp exp).toArray⟩,.string ⟨(mArg arg).toArray⟩] 9)).grownBy w7 (Value.slice oa4 l4.length cap4).ownBlock:=by
      intro W6 hW6 hown6
      obtain ⟨v7,w7,h1,h2,h3,_⟩:=run_append_own (P:=Tryz.prog) (W6.alloc (.cells #[.string ⟨(mExp exp).toArray⟩,.string ⟨(mArg arg).toArray⟩] 9)) (w.heap.size+1) 24 24 9 i0 _ 1 16 Tryz.underlying24 hi0' hz0 hz1 hz2 rfl (by decide) (.slice oa4 l4.length cap4) l4.length (strCells l4) (hown6.alloc _) ⟨W6.heap.size,0,none⟩ 2 2 [.string ⟨(mExp exp).toArray⟩,.string ⟨(mArg arg).toArray⟩] rfl (fun j u hj=>by
       have hb:=ziF W6 (.cells #[.string ⟨(mExp exp).toArray⟩,.string ⟨(mArg arg).toArray⟩] 9) W6.heap.size rfl
       match j,hj with
       | 0,hj=>simp at hj;subst hj;show World.cell? _ ⟨W6.heap.size,0,none⟩=_;rw [zBk hb];rfl
       | 1,hj=>simp at hj;subst hj;show World.cell? _ ⟨W6.heap.size,0+1,none⟩=_;rw [zBk hb];rfl) (by intro u hu;simp at hu;rcases hu with rfl | rfl <;> rfl) (by unfold maxLen;omega) (by omega) (by simp;omega)
      exact ⟨v7,w7,h1,h2,h3⟩
     have HAP:Hid (∀ W6:World,w.heap.size+1≤W6.heap.size→W6.ownsRow (w.heap.size+1) 9 1 (.slice oa4 l4.length cap4) l4.length (strCells l4)→∃ v7 w7,(Builtin.append_ #[24,24] 24 #[.slice oa4 l4.length cap4,.slice (some ⟨W6.heap.size,0,none⟩) 2 2]).run Tryz.prog (W6.alloc (.cells #[.string ⟨(mExp exp).toArray⟩,.string ⟨(mArg arg).toArray⟩] 9))=.ok v7 w7∧w7.ownsRow (w.heap.size+1) 9 1 v7 (l4.length+2) (strCells l4++[.string ⟨(mExp exp).toArray⟩,.string ⟨(mArg arg).toArray⟩])∧(W6.alloc (.cells #[.string ⟨(mExp exp).toArray⟩,.string ⟨(mArg arg).toArray⟩] 9)).grownBy w7 (Value.slice oa4 l4.length cap4).ownBlock):=hAP
     have hS4:∀ x∈(Value.slice oa4 l4.length cap4).ownBlock.toList,w.heap.size+1≤x:=fun x hx=>zYv own4 x (by simpa using hx)
     clear HF hl4 hAP
     go_wp2
     go_region_held3 (fun w'=>w'.cell? ⟨w.heap.size,4,none⟩=some (.int .i64 arg)∧w'.cell? ⟨w.heap.size,5,none⟩=some (.int .i64 exp)) (go_keep) (first
      | (go_at_call 22;have hq:=d4c;refine (zT1 arg _ (by have:=ha.1;omega) (by have:=ha.2;omega)).mono ?_;rintro e w3 ⟨rfl,hb3⟩;have e4:=(hb3.cell (p:=⟨w.heap.size,4,none⟩) hlt2).trans d4c;have e5:=(hb3.cell (p:=⟨w.heap.size,5,none⟩) hlt2).trans d5c;have hlt3:=Nat.lt_of_lt_of_le hlt2 hb3.size;have own3:=zzF own2 (Kept.of_below (S:=[]) hb3) (by simp);obtain ⟨v7,w7,hap,own7,grow7⟩:=HAP.out w3 (by omega) own3;have hk7:Kept (Value.slice oa4 l4.length cap4).ownBlock.toList w3 w7:=((Kept.refl _ w3).alloc _).grownS grow7 (fun g' hg'=>by rw [hg'];simp);have hn7:w.heap.size∉(Value.slice oa4 l4.length cap4).ownBlock.toList:=(fun hm=>by have:=hS4 _ hm;omega);have f4:=(hk7.cell (p:=⟨w.heap.size,4,none⟩) hlt3 hn7).trans e4;have f5:=(hk7.cell (p:=⟨w.heap.size,5,none⟩) hlt3 hn7).trans e5)
      | (go_at_call 22;refine (zT1 exp _ (by have:=he.1;omega) (by have:=he.2;omega)).mono ?_;rintro e w2 ⟨rfl,hb2⟩;have d4c:=(hb2.cell (p:=⟨w.heap.size,4,none⟩) hlt4).trans c4;have d5c:=(hb2.cell (p:=⟨w.heap.size,5,none⟩) hlt4).trans c5;have hlt2:=Nat.lt_of_lt_of_le hlt4 hb2.size;have own2:=zzF own4 (Kept.of_below (S:=[]) ((Below.refl wc.heap.size wc).drew.trans hb2)) (by simp))
      | (refine zti rfl _ _ 24 rfl _ _ _ _ rfl rfl hap ?_))
     all_goals
      have hbl3:Below wc.heap.size wc w3:=((Below.refl wc.heap.size wc).drew.trans hb2).trans (hb3.mono hb2.size)
      have hd5:=(hd4.below hbl3).kept hk7 (fun x hx=>by have:=hS4 x hx;omega)
      have hK5:Kept [b] w w7:=zh0 (zh0 hK4 (Kept.of_below (S:=[]) hbl3) (by simp)) hk7 (fun x hx=>Or.inr (by have:=hS4 x hx;omega))
      have own5:w7.ownsRow (w.heap.size+1) 9 1 v7 (l4++[mExp exp,mArg arg]).length (strCells (l4++[mExp exp,mArg arg])):=by
       rw [show strCells (l4++[mExp exp,mArg arg])=strCells l4++[.string ⟨(mExp exp).toArray⟩,.string ⟨(mArg arg).toArray⟩] by simp [strCells],List.length_append]
       exact own7
      have hlm5:∀ m∈l4++[mExp exp,mArg arg],m.length≤1000:=by intro m hm;rcases List.mem_append.1 hm with hm | hm;exact hlm4 m hm;simp at hm;rcases hm with rfl | rfl;exact hme;exact hma
      have hl55:3≤(l4++[mExp exp,mArg arg]).length∧(l4++[mExp exp,mArg arg]).length≤6:=by simp;omega
      clear own7 grow7 hk7 hap
      generalize l4++[mExp exp,mArg arg]=l5 at*
      obtain ⟨oa5,cap5,rfl,hr5⟩:=zYz1 own5
      obtain ⟨g5,rfl,hg5,hc5⟩:=hr5 (by intro h;rw [h] at hl55;simp at hl55)
      have hgb5:g5≠b:=by have:=zYv own5 g5 rfl;omega
      go_wp2_with fail
      refine (zkk b g5 cap5 sv code d4 l5 _ hd5 ⟨hg5,hc5⟩ hgb5 (by omega) (by omega) hlm5).mono ?_
      rintro e w9 ⟨rfl,hd9,hk9⟩
      go_wp2
      go_ret
      rw [hfin.out]
      exact ⟨rfl,hd9,zh0 hK5 hk9 (by simp)⟩
   · by_cases h2:name=[119,114,105,116,101]∨name=[112,117,116]∨name=[101,110,113]
     · rcases h2 with rfl | rfl | rfl
       all_goals
        have hfin:Hid (R=zZ9 (l4++[mArg arg]) d4):=HF.out
        clear HF
        have hsa:=zkB arg (by have:=ha.1;omega) (by have:=ha.2;omega)
        have ya:((⟨#[34,97,114,103,34,58]⟩:ByteArray)++⟨(sgnP arg).toArray⟩)=⟨(mArg arg).toArray⟩:=zAs [34,97,114,103,34,58] (sgnP arg)
        have hma:(mArg arg).length≤1000:=by simp [mArg];omega
        go_wp2_with fail
        refine (zT1 arg _ (by have:=ha.1;omega) (by have:=ha.2;omega)).mono ?_
        rintro e w6 ⟨rfl,hb6⟩
        have own6:=zzF own4 (Kept.of_below (S:=[]) hb6) (by simp)
        have hz6:=hb6.size
        obtain ⟨oa4,cap4,rfl⟩:=zIW own6
        go_wp2_with (at_builtin;refine wpList_append_own _ rfl _ _ 24 rfl (w.heap.size+1) 9 i0 (.string ⟨#[]⟩) 1 16 Tryz.underlying24 hi0' hz0 hz1 hz2 rfl (by decide) _ _ _ rfl (own6.alloc _) ⟨w6.heap.size,0,none⟩ 1 1 [.string ⟨(mArg arg).toArray⟩] rfl rfl ?c1 ?c2 ?c3 ?c4 ?c5 ?_)
        case c1=>exact zHK _ _ _
        case c2=>intro u hu;simp at hu;subst hu;rfl
        case c3=>unfold maxLen;omega
        case c4=>omega
        case c5=>simp;omega
        intro v7 w7 own7 grow7 _
        have hS6:∀ x∈(Value.slice oa4 l4.length cap4).ownBlock.toList,w.heap.size+1≤x:=fun x hx=>zYv own6 x (by simpa using hx)
        have hk7:Kept (Value.slice oa4 l4.length cap4).ownBlock.toList w6 w7:=((Kept.refl _ w6).alloc _).grownS grow7 (fun g' hg'=>by rw [hg'];simp)
        have hd5:=(hd4.below hb6).kept hk7 (fun x hx=>by have:=hS6 x hx;omega)
        have hK5:Kept [b] w w7:=zh0 (zh0 hK4 (Kept.of_below (S:=[]) hb6) (by simp)) hk7 (fun x hx=>Or.inr (by have:=hS6 x hx;omega))
        have own5:w7.ownsRow (w.heap.size+1) 9 1 v7 (l4++[mArg arg]).length (strCells (l4++[mArg arg])):=by rw [zBt,List.length_append];exact own7
        have hlm5:∀ m∈l4++[mArg arg],m.length≤1000:=by intro m hm;rcases List.mem_append.1 hm with hm | hm;exact hlm4 m hm;simp at hm;subst hm;exact hma
        have hl55:3≤(l4++[mArg arg]).length∧(l4++[mArg arg]).length≤6:=by simp;omega
        clear own7 grow7 hk7 hS6 own6
        generalize l4++[mArg arg]=l5 at*
        obtain ⟨oa5,cap5,rfl,hr5⟩:=zYz1 own5
        obtain ⟨g5,rfl,hg5,hc5⟩:=hr5 (by intro h;rw [h] at hl55;simp at hl55)
        have hgb5:g5≠b:=by have:=zYv own5 g5 rfl;omega
        go_wp2_with fail
        refine (zkk b g5 cap5 sv code d4 l5 _ hd5 ⟨hg5,hc5⟩ hgb5 (by omega) (by omega) hlm5).mono ?_
        rintro e w9 ⟨rfl,hd9,hk9⟩
        go_wp2
        go_ret
        rw [hfin.out]
        exact ⟨rfl,hd9,zh0 hK5 hk9 (by simp)⟩
     · have n1:(name == [99,97,115])=false:=by simp [h1]
       have n2:(name == [119,114,105,116,101])=false:=by simp;exact fun h=>h2 (Or.inl h)
       have n3:(name == [112,117,116])=false:=by simp;exact fun h=>h2 (Or.inr (Or.inl h))
       have n4:(name == [101,110,113])=false:=by simp;exact fun h=>h2 (Or.inr (Or.inr h))
       have hfin:Hid (R=zZ9 l4 d4):=by
        show _=_
        rw [HF.out,if_neg h1,if_neg h2,List.append_nil]
       have own5:=own4
       have hd5:=hd4
       have hK5:=hK4
       have hlm5:=hlm4
       have hl55:3≤l4.length∧l4.length≤6:=by omega
       clear HF own4 hd4 hK4 hlm4 hl4
       generalize l4=l5 at*
       obtain ⟨oa5,cap5,rfl,hr5⟩:=zYz1 own5
       obtain ⟨g5,rfl,hg5,hc5⟩:=hr5 (by intro h;rw [h] at hl55;simp at hl55)
       have hgb5:g5≠b:=by have:=zYv own5 g5 rfl;omega
       go_wp2_with fail
       refine (zkk b g5 cap5 sv code d4 l5 _ hd5 ⟨hg5,hc5⟩ hgb5 (by omega) (by omega) hlm5).mono ?_
       rintro e w9 ⟨rfl,hd9,hk9⟩
       go_wp2
       go_ret
       rw [hfin.out]
       exact ⟨rfl,hd9,zh0 hK5 hk9 (by simp)⟩

def ThX (w:World) (TS:List Nat) (v:Value) (l:List Int) (n:Nat):Prop:=(n=0∧l=[]∧v=.slice none 0 0)∨∃ g off cap,v=.slice (some ⟨g,off,none⟩) n cap∧g∈TS∧g < w.heap.size∧n≤cap∧cap≤maxLen∧l.length=n∧(∀ x∈l,small x)∧
 (∀ j x,l[j]?=some x→w.cell? ⟨g,off+j,none⟩=some (.int .i64 x))∧(∀ j,j < cap→(w.cell? ⟨g,off+j,none⟩).isSome=true∧w.frozen? ⟨g,off+j,none⟩=false)
theorem ThX.slice {w:World} {TS:List Nat} {v:Value} {l:List Int} {n:Nat} (h:ThX w TS v l n):∃ oa cap,v=.slice oa n cap:=by
 rcases h with ⟨rfl,_,rfl⟩ | ⟨g,off,cap,rfl,_⟩
 · exact ⟨_,_,rfl⟩
 · exact ⟨_,_,rfl⟩
theorem ThX.len {w:World} {TS:List Nat} {v:Value} {l:List Int} {n:Nat} (h:ThX w TS v l n):l.length=n:=by
 rcases h with ⟨rfl,rfl,_⟩ | ⟨g,off,cap,_,_,_,_,_,h,_⟩
 · rfl
 · exact h
theorem ThX.small {w:World} {TS:List Nat} {v:Value} {l:List Int} {n:Nat} (h:ThX w TS v l n):∀ x∈l,small x:=by
 rcases h with ⟨_,rfl,_⟩ | ⟨g,off,cap,_,_,_,_,_,_,h,_⟩
 · simp
 · exact h
theorem ThX.keep {S TS:List Nat} {w w':World} {v:Value} {l:List Int} {n:Nat} (h:ThX w TS v l n) (k:Kept S w w') (hd:∀ x∈TS,x∉S):ThX w' TS v l n:=by
 rcases h with h | ⟨g,off,cap,hv,hg,hlt,hnc,hcm,hl,hs,h1,h2⟩
 · exact Or.inl h
 · refine Or.inr ⟨g,off,cap,hv,hg,Nat.lt_of_lt_of_le hlt k.size,hnc,hcm,hl,hs,fun j x hj=>?_,fun j hj=>?_⟩
   · rw [k.cell (p:=⟨g,off+j,none⟩) hlt (hd g hg)];exact h1 j x hj
   · rw [k.cell (p:=⟨g,off+j,none⟩) hlt (hd g hg),k.frozen (p:=⟨g,off+j,none⟩) hlt (hd g hg)];exact h2 j hj
theorem ThX.more {w:World} {TS TS':List Nat} {v:Value} {l:List Int} {n:Nat} (h:ThX w TS v l n) (hT:∀ x∈TS,x < w.heap.size→x∈TS'):ThX w TS' v l n:=by
 rcases h with h | ⟨g,off,cap,hv,hg,hlt,r⟩
 · exact Or.inl h
 · exact Or.inr ⟨g,off,cap,hv,hT g hg hlt,hlt,r⟩
theorem ThX.head {W:World} {TS:List Nat} {oa:Option Addr} {l:List Int} {n cap:Nat} (h:ThX W TS (.slice oa n cap) l n) (h1:1≤n):∃ g off x r,oa=some ⟨g,off,none⟩∧g∈TS∧g < W.heap.size∧n≤cap∧cap≤maxLen∧l=x::r∧W.cell? ⟨g,off,none⟩=some (.int .i64 x)∧
 ThX W TS (if cap=1 then .slice (some ⟨g,off,none⟩) 0 0 else .slice (some ⟨g,off+1,none⟩) (n - 1) (cap - 1)) r (n - 1):=by
 rcases h with ⟨h0,_⟩ | ⟨g,off,cap',hv,hg,hlt,hnc,hcm,hl,hs,hc,hf⟩
 · omega
 · injection hv with e1 _ e2
   subst e1
   subst e2
   rcases l with _ | ⟨x,r⟩
   · simp at hl;omega
   · have hl':r.length=n - 1:=by simp at hl;omega
     refine ⟨g,off,x,r,rfl,hg,hlt,hnc,hcm,rfl,by simpa using hc 0 x rfl,Or.inr ?_⟩
     by_cases e:cap=1
     · rw [if_pos e]
       have e0:n - 1=0:=by omega
       have er:r=[]:=List.length_eq_zero_iff.1 (by omega)
       subst er
       exact ⟨g,off,0,by rw [e0],hg,hlt,by omega,by omega,hl',by simp,by simp,fun j hj=>by omega⟩
     · rw [if_neg e]
       exact ⟨g,off+1,cap - 1,rfl,hg,hlt,by omega,by omega,hl',fun y hy=>hs y (by simp [hy]),fun j y hj=>by rw [show off+1+j=off+(j+1) by omega];exact hc (j+1) y (by simpa using hj),fun j hj=>by rw [show off+1+j=off+(j+1) by omega];exact hf (j+1) (by omega)⟩
structure AtX (w:World) (wb o:Nat) (TS:List Nat) (wc:Array Value) (l:List Int) (n:Nat):Prop where
 blk:w.heap[wb]?=some (.cells wc 67 (0,0))
 row:∃ v,wc[o]?=some v∧ThX w TS v l n
 ne:wb∉TS
theorem AtX.step {w w':World} {wb o:Nat} {TS:List Nat} {wc:Array Value} {l:List Int} {n:Nat} (h:AtX w wb o TS wc l n) (k:Below w.heap.size w w'):AtX w' wb o TS wc l n:=by
 obtain ⟨v,h1,h2⟩:=h.row
 exact ⟨(k.block wb (zCqB h.blk)).trans h.blk,⟨v,h1,h2.keep (Kept.of_below (S:=[]) k) (by simp)⟩,h.ne⟩
def zef (wb o:Nat) (TS:List Nat) (wc:Array Value) (lv:List Int×Int×Int) (w:World) (e:Ending) (w':World):Prop:=
 ∃ (v':Value) (TS':List Nat),e=.returned (.agg #[.int .i64 lv.2.1,.int .i64 lv.2.2])∧(∀ x∈TS,x∈TS')∧(∀ x∈TS',x∈TS∨w.heap.size≤x)∧
  w'.heap[wb]?=some (.cells (wc.setIfInBounds o v') 67 (0,0))∧ThX w' TS' v' lv.1 lv.1.length∧Kept ([wb]++TS) w w'
theorem setX {w:World} {wb o n:Nat} {TS:List Nat} {wc:Array Value} {l:List Int} (h:AtX w wb o TS wc l n) (x:Int) (hx:small x):
 let w':=(w.setCell ⟨wb,o,none⟩ (.slice (some ⟨w.heap.size,0,none⟩) 1 1)).alloc (.cells #[.int .i64 x] 2)
 w'.heap[wb]?=some (.cells (wc.setIfInBounds o (.slice (some ⟨w.heap.size,0,none⟩) 1 1)) 67 (0,0))∧ThX w' (w.heap.size::TS) (.slice (some ⟨w.heap.size,0,none⟩) 1 1) [x] 1∧Kept ([wb]++TS) w w':=by
 have hsz:(w.setCell ⟨wb,o,none⟩ (.slice (some ⟨w.heap.size,0,none⟩) 1 1)).heap.size=w.heap.size:=by simp [World.setCell]
 have hlt:=zCqB h.blk
 refine ⟨?_,?_,?_⟩
 · rw [zD1 _ _ _ (by rw [hsz];exact hlt),zFg h.blk]
 · have hb:=ziF (w.setCell ⟨wb,o,none⟩ (.slice (some ⟨w.heap.size,0,none⟩) 1 1)) (.cells #[.int .i64 x] 2) w.heap.size hsz.symm
   refine Or.inr ⟨_,_,_,rfl,by simp,zCqB hb,Nat.le_refl _,by unfold maxLen;omega,rfl,by simpa using hx,?_,?_⟩
   · intro j y hj
     match j,hj with
     | 0,hj=>
       simp at hj
       subst hj
       rw [zBk hb];rfl
   · intro j hj
     obtain rfl:j=0:=by omega
     exact ⟨by rw [zBk hb];rfl,zBn hb _⟩
 · exact (((Kept.refl [wb] w).setCell (p:=⟨wb,o,none⟩) (Or.inl (by simp)) _).alloc _).mono (fun x _ hx=>by simp at hx;simp [hx])
theorem z03 {w:World} {base:Nat} {v:Value} {l:List Int} (h:w.ownsRow base 2 1 v l.length (l.map (Value.int .i64))) (hs:∀ x∈l,small x) (hne:l≠[]):∃ g,base≤g∧ThX w [g] v l l.length:=by
 rcases h.2 with ⟨_,h0⟩ | ⟨g,cap,cur,rfl,hb,hg,hnc,hcm,hcs,htake⟩
 · exact absurd (List.length_eq_zero_iff.1 h0) hne
 · refine ⟨g,hb,Or.inr ⟨g,0,cap,rfl,by simp,zCqB hg,hnc,hcm,rfl,hs,fun j x hj=>?_,fun j hj=>?_⟩⟩
   · have hjl:=(List.getElem?_eq_some_iff.1 hj).1
     rw [Nat.zero_add,zBk hg]
     have:(cur.toList.take l.length)[j]?=(l.map (Value.int .i64))[j]?:=by
      have e:=htake
      simp only [Nat.mul_one] at e
      rw [e]
     rw [List.getElem?_take,if_pos hjl] at this
     rw [←Array.getElem?_toList,this,List.getElem?_map,hj];rfl
   · rw [Nat.zero_add,zBk hg]
     exact ⟨by simp at hcs;simp;omega,zBn hg _⟩
theorem enqX {W:World} {TS:List Nat} {v:Value} {l:List Int} {n:Nat} (h:ThX W TS v l n) (hn:n≤1000000) (arg:Int) (ha:small arg):
 ∃ v' w' TS',(Builtin.append_ #[62,62] 62 #[v,.slice (some ⟨W.heap.size,0,none⟩) 1 1]).run Tryz.prog ((W.alloc (.cells #[.int .i64 arg] 2)).drew)=.ok v' w'∧ThX w' TS' v' (l++[arg]) (n+1)∧Kept TS W w'∧(∀ x∈TS,x∈TS')∧(∀ x∈TS',x∈TS∨W.heap.size≤x):=by
 obtain ⟨i0,hi,hz0,hz1,hz2⟩:=info_parts zWG
 have hbl:Below W.heap.size W ((W.alloc (.cells #[.int .i64 arg] 2)).drew):=((Below.refl _ _).alloc (Nat.le_refl _) _).drew
 have hsz:((W.alloc (.cells #[.int .i64 arg] 2)).drew).heap.size=W.heap.size+1:=by simp
 have hnew:∀ j u,[Value.int .i64 arg][j]?=some u→((W.alloc (.cells #[.int .i64 arg] 2)).drew).cell? ((⟨W.heap.size,0,none⟩:Addr).add j)=some u:=by
  intro j u hj
  match j,hj with
  | 0,hj=>
    simp at hj
    subst hj
    show (W.alloc (.cells #[.int .i64 arg] 2)).cell? _=_
    simp [Addr.add]
 have hsm:∀ x∈l++[arg],small x:=by
  intro x hx
  rcases List.mem_append.1 hx with hx | hx
  · exact h.small x hx
  · simp at hx;subst hx;exact ha
 rcases h with ⟨rfl,rfl,rfl⟩ | ⟨g,off,cap,rfl,hg,hlt,hnc,hcm,hl,hs,hcs,hfr⟩
 · obtain ⟨v',w',hap,hown,hgr,_⟩:=run_append_own (P:=Tryz.prog) ((W.alloc (.cells #[.int .i64 arg] 2)).drew) W.heap.size 62 62 2 i0 _ 1 8 Tryz.underlying62 hi hz0 hz1 hz2 rfl (by decide) (.slice none 0 0) 0 [] (World.ownsRow_nil _ _ _ _) ⟨W.heap.size,0,none⟩ 1 1 [.int .i64 arg] rfl hnew (by intro u hu;simp at hu;subst hu;rfl) (by unfold maxLen;omega) (by omega) (by rw [hsz];omega)
   obtain ⟨g,hg,hth⟩:=z03 (l:=[arg]) (by simpa using hown) (by intro x hx;simp at hx;subst hx;exact ha) (by simp)
   have hb2:Below W.heap.size W w':=hbl.grown hgr (by rw [hsz];omega) (fun k hk=>by cases hk)
   exact ⟨v',w',g::TS,hap,hth.more (by simp),Kept.of_below hb2,fun x hx=>by simp [hx],fun x hx=>by rcases List.mem_cons.1 hx with rfl | h;exact Or.inr hg;exact Or.inl h⟩
 · by_cases hroom:n+1≤cap
   · have hap:=run_append_room_cells (P:=Tryz.prog) ((W.alloc (.cells #[.int .i64 arg] 2)).drew) 62 62 2 i0 Tryz.underlying62 hi g off n cap ⟨W.heap.size,0,none⟩ 1 1 [.int .i64 arg] (by rw [hz1];rfl) hnew (by intro u hu;simp at hu;subst hu;rfl) hroom
      (fun j hj=>by
       obtain rfl:j=0:=by simp at hj;omega
       rw [hz1,Nat.mul_one,Nat.add_zero,hbl.cell (p:=⟨g,off+n,none⟩) hlt];exact (hfr n (by omega)).1)
      (fun j hj=>by
       obtain rfl:j=0:=by simp at hj;omega
       rw [hz1,Nat.mul_one,Nat.add_zero,hbl.frozen (p:=⟨g,off+n,none⟩) hlt];exact (hfr n (by omega)).2)
     rw [hz1,Nat.mul_one] at hap
     have e1:((W.alloc (.cells #[.int .i64 arg] 2)).drew).setCells g (off+n) [.int .i64 arg]=((W.alloc (.cells #[.int .i64 arg] 2)).drew).setCell ⟨g,off+n,none⟩ (.int .i64 arg):=rfl
     rw [e1] at hap
     have hthere:=(hfr n (by omega)).1
     have hoth:∀ j,j≠n→(((W.alloc (.cells #[.int .i64 arg] 2)).drew).setCell ⟨g,off+n,none⟩ (.int .i64 arg)).cell? ⟨g,off+j,none⟩=W.cell? ⟨g,off+j,none⟩:=fun j hj=>
      (World.cell?_setCell_other _ _ _ _ (fun e=>by injection e with _ e _;omega)).trans (hbl.cell (p:=⟨g,off+j,none⟩) hlt)
     have hat:(((W.alloc (.cells #[.int .i64 arg] 2)).drew).setCell ⟨g,off+n,none⟩ (.int .i64 arg)).cell? ⟨g,off+n,none⟩=some (.int .i64 arg):=by
      obtain ⟨u,hu⟩:=Option.isSome_iff_exists.1 hthere
      exact World.cell?_setCell_same _ _ _ ((hbl.cell (p:=⟨g,off+n,none⟩) hlt).trans hu)
     have hk:Kept TS W (((W.alloc (.cells #[.int .i64 arg] 2)).drew).setCell ⟨g,off+n,none⟩ (.int .i64 arg)):=(Kept.of_below hbl).setCell (p:=⟨g,off+n,none⟩) (Or.inl hg) _
     refine ⟨_,_,TS,hap,?_,hk,fun _ h=>h,fun _ h=>Or.inl h⟩
     refine Or.inr ⟨g,off,cap,rfl,hg,Nat.lt_of_lt_of_le hlt hk.size,hroom,hcm,by simp [hl],hsm,fun j x hj=>?_,fun j hj=>?_⟩
     · by_cases hjn:j=n
       · subst hjn
         rw [List.getElem?_append_right (by omega),hl,Nat.sub_self] at hj
         simp at hj
         subst hj
         exact hat
       · rw [hoth j hjn]
         rw [List.getElem?_append_left (by have:=(List.getElem?_eq_some_iff.1 hj).1;simp at this;omega)] at hj
         exact hcs j x hj
     · refine ⟨?_,?_⟩
       · by_cases hjn:j=n
         · subst hjn;rw [hat];rfl
         · rw [hoth j hjn];exact (hfr j hj).1
       · rw [World.frozen?_setCell];exact (hbl.frozen (p:=⟨g,off+j,none⟩) hlt).trans (hfr j hj).2
   · obtain ⟨v',w',hap,hown,hgr⟩:=run_append_arg_grows (P:=Tryz.prog) ((W.alloc (.cells #[.int .i64 arg] 2)).drew) 62 62 2 i0 _ 1 8 Tryz.underlying62 hi hz0 hz1 hz2 rfl (by decide) ⟨g,off,none⟩ n cap (l.map (Value.int .i64)) (by simp [hl]) (fun j u hj=>by
      have e:(⟨g,off,none⟩:Addr).add j=⟨g,off+j,none⟩:=by
       by_cases h0:j=0
       · subst h0;simp [Addr.add]
       · simp [Addr.add,h0]
      rw [List.getElem?_map] at hj
      obtain ⟨x,hx,rfl⟩:=Option.map_eq_some_iff.1 hj
      rw [e,hbl.cell (p:=⟨g,off+j,none⟩) hlt];exact hcs j x hx) ⟨W.heap.size,0,none⟩ 1 1 [.int .i64 arg] rfl hnew (by omega) (by unfold maxLen;omega) (by omega)
     obtain ⟨g',hg',hth⟩:=z03 (l:=l++[arg]) (by simpa [hl] using hown) hsm (by simp)
     have hb2:Below W.heap.size W w':=hbl.grown hgr (by rw [hsz];omega) (fun k hk=>by cases hk)
     refine ⟨v',w',g'::TS,hap,?_,Kept.of_below hb2,fun x hx=>by simp [hx],fun x hx=>by rcases List.mem_cons.1 hx with rfl | h;exact Or.inr (by omega);exact Or.inl h⟩
     have:=hth.more (TS':=g'::TS) (by simp)
     simpa [hl] using this
end Go.Proofs.YtlkidmafomjhgaaGreatDoor.keep
