/- Several texts in one. -/
import Derived.Test.YtbbkihekjdffpaaGreatDoorSrchAA
import Derived.Laws.MakeOwn
import Derived.Lib.AppendIntMem
import Derived.Lib.ItoaLen
import Derived.Lib.SliceRun
import Derived.Lib.SmallJoins
import Derived.Maps.AppendAt
import Derived.OwnWalk
set_option maxHeartbeats 9000000
set_option maxRecDepth 100000
namespace Go.Proofs.YtbbkihekjdffpaaGreatDoor
open Tryz
open Go.RowKit
def rMem (name:ByteArray)(kind:Nat)(s:ByteArray)(n:Int):Value:=.agg #[.string name,.int .u8 (kind:Int),.string s,.int .i64 n]
def zLi (mark:Nat)(s:ByteArray):Nat×ByteArray×Int×Bool:=
 if mark=34 then(115,s,0,true)else if mark≠119 then(0,⟨#[]⟩,0,false)
 else if(s.toList==[116,114,117,101])=true then(116,⟨#[]⟩,0,true)
 else if(s.toList==[102,97,108,115,101])=true then(102,⟨#[]⟩,0,true)
 else if(s.toList==[110,117,108,108])=true then(110,⟨#[]⟩,0,true)
 else(105,⟨#[]⟩,(zyu (lets s)).1,(zyu (lets s)).2)
def zAj (p:Nat×ByteArray×Int×Bool):Value:=.tuple #[rMem ⟨#[]⟩ p.1 p.2.1 p.2.2.1,.bool p.2.2.2]
theorem z4Z (mark:Nat)(s:ByteArray)(w:World)(hs:s.size≤9000000)(_hm:mark<256):
 Calls prog 101 #[.agg #[.int .u8 mark,.string s]] w fun e w'=>Below w.heap.size w w'∧e=.returned (zAj (zLi mark s)):=by
 go_enter func101,ntmps101;by_cases h34:mark=34
 ·have h34':((mark:Int)==34)=true:=by simp;omega
  have hE:Hid (zLi mark s=(115,s,0,true)):=by unfold zLi;rw[if_pos h34];exact rfl
  go_wp2;refine bodyPost_ret (v:=zAj (115,s,0,true)) (by simp[results,results101,go_sem,zAj,rMem]) rfl ⟨?_,by rw[hE.out]⟩
  (repeat (first|exact zD|refine Below.alloc ?_ (by simp<;>omega) _|refine Below.setCell ?_ (by simp<;>omega) _))
 ·have h34':((mark:Int)==34)=false:=by simp;omega
  by_cases hw:mark=119
  ·have hw':((mark:Int) != 119)=false:=(by simp;omega);cases q1:(s.toList==[116,114,117,101])with
   |true=>
     have hE:Hid (zLi mark s=(116,⟨#[]⟩,0,true)):=(by unfold zLi;rw[if_neg h34,if_neg (by omega),if_pos q1];exact rfl);go_wp2;refine bodyPost_ret (v:=zAj (116,⟨#[]⟩,0,true)) (by simp[results,results101,go_sem,zAj,rMem]) rfl ⟨?_,by rw[hE.out]⟩
     (repeat (first|exact zD|refine Below.alloc ?_ (by simp<;>omega) _|refine Below.setCell ?_ (by simp<;>omega) _))
   |false=>
     cases q2:(s.toList==[102,97,108,115,101])with
     |true=>
       have hE:Hid (zLi mark s=(102,⟨#[]⟩,0,true)):=(by unfold zLi;rw[if_neg h34,if_neg (by omega),if_neg (by simp only [q1];decide),if_pos q2];exact rfl);go_wp2;refine bodyPost_ret (v:=zAj (102,⟨#[]⟩,0,true)) (by simp[results,results101,go_sem,zAj,rMem]) rfl ⟨?_,by rw[hE.out]⟩
       (repeat (first|exact zD|refine Below.alloc ?_ (by simp<;>omega) _|refine Below.setCell ?_ (by simp<;>omega) _))
     |false=>
       cases q3:(s.toList==[110,117,108,108])with
       |true=>
         have hE:Hid (zLi mark s=(110,⟨#[]⟩,0,true)):=(by unfold zLi;rw[if_neg h34,if_neg (by omega),if_neg (by simp only [q1];decide),if_neg (by simp only [q2];decide),if_pos q3];exact rfl);go_wp2;refine bodyPost_ret (v:=zAj (110,⟨#[]⟩,0,true)) (by simp[results,results101,go_sem,zAj,rMem]) rfl ⟨?_,by rw[hE.out]⟩
         (repeat (first|exact zD|refine Below.alloc ?_ (by simp<;>omega) _|refine Below.setCell ?_ (by simp<;>omega) _))
       |false=>
         have hE:Hid (zLi mark s=(105,⟨#[]⟩,(zyu (lets s)).1,(zyu (lets s)).2)):=(by unfold zLi;rw[if_neg h34,if_neg (by omega),if_neg (by simp only [q1];decide),if_neg (by simp only [q2];decide),if_neg (by simp only [q3];decide)];exact rfl);go_wp2_with fail;refine(whole_any s _ hs).mono ?_;rintro e w2 ⟨rfl,rfl⟩;generalize zyu (lets s)=r at*;obtain⟨n,b⟩:=r;go_wp2;refine bodyPost_ret (v:=zAj (105,⟨#[]⟩,n,b)) (by simp[results,results101,go_sem,zAj,rMem]) rfl ⟨?_,by rw[hE.out]⟩
         (repeat (first|exact zD|refine Below.alloc ?_ (by simp<;>omega) _|refine Below.setCell ?_ (by simp<;>omega) _))
  ·have hw':((mark:Int) != 119)=true:=(by simp;omega);have hE:Hid (zLi mark s=(0,⟨#[]⟩,0,false)):=(by unfold zLi;rw[if_neg h34,if_pos hw];exact rfl);go_wp2;refine bodyPost_ret (v:=zAj (0,⟨#[]⟩,0,false)) (by simp[results,results101,go_sem,zAj,rMem]) rfl ⟨?_,by rw[hE.out]⟩
   (repeat (first|exact zD|refine Below.alloc ?_ (by simp<;>omega) _|refine Below.setCell ?_ (by simp<;>omega) _))
def fitP (name:List UInt8)(kind:Nat)(call:Bool):Bool:=
 if(name==[99,97,108,108])=true then call&&((kind:Int)==105)else
 if(name==[98,121])=true then call&&((kind:Int)==105)else
 if(name==[97,114,103])=true then call&&((kind:Int)==105)else
 if(name==[101,120,112])=true then call&&((kind:Int)==105)else
 if(name==[111,112])=true then call&&((kind:Int)==115)else
 if(name==[107,101,121])=true then call&&((kind:Int)==115)else
 if(name==[114,101,116])=true then !call&&((kind:Int)==105)else
 if(name==[118,97,108])=true then !call&&((kind:Int) != 115)else
 false
theorem zNE (name:ByteArray)(kind:Nat)(s:ByteArray)(n:Int)(call:Bool)(w:World)(_hk:kind<256):
 Calls Tryz.prog 134 #[rMem name kind s n,.bool call] w fun e w'=>Below w.heap.size w w'∧e=.returned (.bool (fitP name.toList kind call)):=by
 unfold rMem;go_enter Tryz.func134,Tryz.ntmps134;cases q1:(name.toList==[99,97,108,108])with
 |true=>
   have hE:Hid (fitP name.toList kind call=(call&&((kind:Int)==105))):=(by unfold fitP;rw[if_pos q1];exact rfl);cases call
   all_goals
    go_wp2;go_ret;refine⟨by(repeat (first|exact zD|refine Below.alloc ?_ (by simp<;>omega) _|refine Below.setCell ?_ (by simp<;>omega) _)),?_⟩;rw[hE.out];rfl
 |false=>
   cases q2:(name.toList==[98,121])with
   |true=>
     have hE:Hid (fitP name.toList kind call=(call&&((kind:Int)==105))):=(by unfold fitP;rw[if_neg (by simp only [q1];decide),if_pos q2];exact rfl);cases call
     all_goals
      go_wp2;go_ret;refine⟨by(repeat (first|exact zD|refine Below.alloc ?_ (by simp<;>omega) _|refine Below.setCell ?_ (by simp<;>omega) _)),?_⟩;rw[hE.out];rfl
   |false=>
     cases q3:(name.toList==[97,114,103])with
     |true=>
       have hE:Hid (fitP name.toList kind call=(call&&((kind:Int)==105))):=(by unfold fitP;rw[if_neg (by simp only [q1];decide),if_neg (by simp only [q2];decide),if_pos q3];exact rfl);cases call
       all_goals
        go_wp2;go_ret;refine⟨by(repeat (first|exact zD|refine Below.alloc ?_ (by simp<;>omega) _|refine Below.setCell ?_ (by simp<;>omega) _)),?_⟩;rw[hE.out];rfl
     |false=>
       cases q4:(name.toList==[101,120,112])with
       |true=>
         have hE:Hid (fitP name.toList kind call=(call&&((kind:Int)==105))):=(by unfold fitP;rw[if_neg (by simp only [q1];decide),if_neg (by simp only [q2];decide),if_neg (by simp only [q3];decide),if_pos q4];exact rfl);cases call
         all_goals
          go_wp2;go_ret;refine⟨by(repeat (first|exact zD|refine Below.alloc ?_ (by simp<;>omega) _|refine Below.setCell ?_ (by simp<;>omega) _)),?_⟩;rw[hE.out];rfl
       |false=>
         cases q5:(name.toList==[111,112])with
         |true=>
           have hE:Hid (fitP name.toList kind call=(call&&((kind:Int)==115))):=(by unfold fitP;rw[if_neg (by simp only [q1];decide),if_neg (by simp only [q2];decide),if_neg (by simp only [q3];decide),if_neg (by simp only [q4];decide),if_pos q5];exact rfl);cases call
           all_goals
            go_wp2;go_ret;refine⟨by(repeat (first|exact zD|refine Below.alloc ?_ (by simp<;>omega) _|refine Below.setCell ?_ (by simp<;>omega) _)),?_⟩;rw[hE.out];rfl
         |false=>
           cases q6:(name.toList==[107,101,121])with
           |true=>
             have hE:Hid (fitP name.toList kind call=(call&&((kind:Int)==115))):=(by unfold fitP;rw[if_neg (by simp only [q1];decide),if_neg (by simp only [q2];decide),if_neg (by simp only [q3];decide),if_neg (by simp only [q4];decide),if_neg (by simp only [q5];decide),if_pos q6];exact rfl);cases call
             all_goals
              go_wp2;go_ret;refine⟨by(repeat (first|exact zD|refine Below.alloc ?_ (by simp<;>omega) _|refine Below.setCell ?_ (by simp<;>omega) _)),?_⟩;rw[hE.out];rfl
           |false=>
             cases q7:(name.toList==[114,101,116])with
             |true=>
               have hE:Hid (fitP name.toList kind call=(!call&&((kind:Int)==105))):=(by unfold fitP;rw[if_neg (by simp only [q1];decide),if_neg (by simp only [q2];decide),if_neg (by simp only [q3];decide),if_neg (by simp only [q4];decide),if_neg (by simp only [q5];decide),if_neg (by simp only [q6];decide),if_pos q7];exact rfl);cases call
               all_goals
                go_wp2;go_ret;refine⟨by(repeat (first|exact zD|refine Below.alloc ?_ (by simp<;>omega) _|refine Below.setCell ?_ (by simp<;>omega) _)),?_⟩;rw[hE.out];rfl
             |false=>
               cases q8:(name.toList==[118,97,108])with
               |true=>
                 have hE:Hid (fitP name.toList kind call=(!call&&((kind:Int) != 115))):=(by unfold fitP;rw[if_neg (by simp only [q1];decide),if_neg (by simp only [q2];decide),if_neg (by simp only [q3];decide),if_neg (by simp only [q4];decide),if_neg (by simp only [q5];decide),if_neg (by simp only [q6];decide),if_neg (by simp only [q7];decide),if_pos q8];exact rfl);cases call
                 all_goals
                  go_wp2;go_ret;refine⟨by(repeat (first|exact zD|refine Below.alloc ?_ (by simp<;>omega) _|refine Below.setCell ?_ (by simp<;>omega) _)),?_⟩;rw[hE.out];rfl
               |false=>
                 have hE:Hid (fitP name.toList kind call=false):=(by unfold fitP;rw[if_neg (by simp only [q1];decide),if_neg (by simp only [q2];decide),if_neg (by simp only [q3];decide),if_neg (by simp only [q4];decide),if_neg (by simp only [q5];decide),if_neg (by simp only [q6];decide),if_neg (by simp only [q7];decide),if_neg (by simp only [q8];decide)];exact rfl);go_wp2;go_ret;refine⟨by(repeat (first|exact zD|refine Below.alloc ?_ (by simp<;>omega) _|refine Below.setCell ?_ (by simp<;>omega) _)),?_⟩;rw[hE.out];rfl
def zyw (l:List UInt8):List UInt8×List UInt8×Bool:=
 if(l==[114,101,103,105,115,116,101,114,32,114,101,97,100])=true then([],[105],true)else
 if(l==[114,101,103,105,115,116,101,114,32,119,114,105,116,101])=true then([97],[110],true)else
 if(l==[113,117,101,117,101,32,101,110,113])=true then([97],[110],true)else
 if(l==[114,101,103,105,115,116,101,114,32,99,97,115])=true then([97,101],[98],true)else
 if(l==[107,118,32,103,101,116])=true then([107],[105,110],true)else
 if(l==[107,118,32,112,117,116])=true then([107,97],[110],true)else
 if(l==[107,118,32,100,101,108])=true then([107],[98],true)else
 if(l==[115,101,116,32,97,100,100])=true then([107],[98],true)else
 if(l==[115,101,116,32,114,101,109])=true then([107],[98],true)else
 if(l==[115,101,116,32,104,97,115])=true then([107],[98],true)else
 if(l==[113,117,101,117,101,32,100,101,113])=true then([],[105,110],true)else
 if(l==[108,111,99,107,32,97,99,113])=true then([],[98],true)else
 if(l==[108,111,99,107,32,114,101,108])=true then([],[98],true)else
 ([],[],false)
def zu1 (p:List UInt8×List UInt8×Bool):Value:=.tuple #[.string ⟨p.1.toArray⟩,.string ⟨p.2.1.toArray⟩,.bool p.2.2]
theorem zf4 (m n:ByteArray)(w:World)(hm:m.size≤9000000)(hn:n.size≤9000000):
 Calls prog 103 #[.string m,.string n] w fun e w'=>w'=w∧e=.returned (zu1 (zyw (m++(⟨#[32]⟩:ByteArray)++n).toList)):=by
 go_enter func103,ntmps103;cases q1:((m++(⟨#[32]⟩:ByteArray)++n).toList==[114,101,103,105,115,116,101,114,32,114,101,97,100])with
 |true=>
   have hE:Hid (zyw (m++(⟨#[32]⟩:ByteArray)++n).toList=([],[105],true)):=(by unfold zyw;rw[if_pos q1];exact rfl);go_wp2;refine bodyPost_ret (v:=zu1 ([],[105],true)) (by simp[results,results103,go_sem,zu1]) rfl ⟨rfl,by rw[hE.out]⟩
 |false=>
   cases q2:((m++(⟨#[32]⟩:ByteArray)++n).toList==[114,101,103,105,115,116,101,114,32,119,114,105,116,101])with
   |true=>
     have hE:Hid (zyw (m++(⟨#[32]⟩:ByteArray)++n).toList=([97],[110],true)):=(by unfold zyw;rw[if_neg (by simp only [q1];decide),if_pos q2];exact rfl);go_wp2;refine bodyPost_ret (v:=zu1 ([97],[110],true)) (by simp[results,results103,go_sem,zu1]) rfl ⟨rfl,by rw[hE.out]⟩
   |false=>
     cases q3:((m++(⟨#[32]⟩:ByteArray)++n).toList==[113,117,101,117,101,32,101,110,113])with
     |true=>
       have hE:Hid (zyw (m++(⟨#[32]⟩:ByteArray)++n).toList=([97],[110],true)):=(by unfold zyw;rw[if_neg (by simp only [q1];decide),if_neg (by simp only [q2];decide),if_pos q3];exact rfl);go_wp2;refine bodyPost_ret (v:=zu1 ([97],[110],true)) (by simp[results,results103,go_sem,zu1]) rfl ⟨rfl,by rw[hE.out]⟩
     |false=>
       cases q4:((m++(⟨#[32]⟩:ByteArray)++n).toList==[114,101,103,105,115,116,101,114,32,99,97,115])with
       |true=>
         have hE:Hid (zyw (m++(⟨#[32]⟩:ByteArray)++n).toList=([97,101],[98],true)):=(by unfold zyw;rw[if_neg (by simp only [q1];decide),if_neg (by simp only [q2];decide),if_neg (by simp only [q3];decide),if_pos q4];exact rfl);go_wp2;refine bodyPost_ret (v:=zu1 ([97,101],[98],true)) (by simp[results,results103,go_sem,zu1]) rfl ⟨rfl,by rw[hE.out]⟩
       |false=>
         cases q5:((m++(⟨#[32]⟩:ByteArray)++n).toList==[107,118,32,103,101,116])with
         |true=>
           have hE:Hid (zyw (m++(⟨#[32]⟩:ByteArray)++n).toList=([107],[105,110],true)):=(by unfold zyw;rw[if_neg (by simp only [q1];decide),if_neg (by simp only [q2];decide),if_neg (by simp only [q3];decide),if_neg (by simp only [q4];decide),if_pos q5];exact rfl);go_wp2;refine bodyPost_ret (v:=zu1 ([107],[105,110],true)) (by simp[results,results103,go_sem,zu1]) rfl ⟨rfl,by rw[hE.out]⟩
         |false=>
           cases q6:((m++(⟨#[32]⟩:ByteArray)++n).toList==[107,118,32,112,117,116])with
           |true=>
             have hE:Hid (zyw (m++(⟨#[32]⟩:ByteArray)++n).toList=([107,97],[110],true)):=(by unfold zyw;rw[if_neg (by simp only [q1];decide),if_neg (by simp only [q2];decide),if_neg (by simp only [q3];decide),if_neg (by simp only [q4];decide),if_neg (by simp only [q5];decide),if_pos q6];exact rfl);go_wp2;refine bodyPost_ret (v:=zu1 ([107,97],[110],true)) (by simp[results,results103,go_sem,zu1]) rfl ⟨rfl,by rw[hE.out]⟩
           |false=>
             cases q7:((m++(⟨#[32]⟩:ByteArray)++n).toList==[107,118,32,100,101,108])with
             |true=>
               have hE:Hid (zyw (m++(⟨#[32]⟩:ByteArray)++n).toList=([107],[98],true)):=(by unfold zyw;rw[if_neg (by simp only [q1];decide),if_neg (by simp only [q2];decide),if_neg (by simp only [q3];decide),if_neg (by simp only [q4];decide),if_neg (by simp only [q5];decide),if_neg (by simp only [q6];decide),if_pos q7];exact rfl);go_wp2;refine bodyPost_ret (v:=zu1 ([107],[98],true)) (by simp[results,results103,go_sem,zu1]) rfl ⟨rfl,by rw[hE.out]⟩
             |false=>
               cases q8:((m++(⟨#[32]⟩:ByteArray)++n).toList==[115,101,116,32,97,100,100])with
               |true=>
                 have hE:Hid (zyw (m++(⟨#[32]⟩:ByteArray)++n).toList=([107],[98],true)):=(by unfold zyw;rw[if_neg (by simp only [q1];decide),if_neg (by simp only [q2];decide),if_neg (by simp only [q3];decide),if_neg (by simp only [q4];decide),if_neg (by simp only [q5];decide),if_neg (by simp only [q6];decide),if_neg (by simp only [q7];decide),if_pos q8];exact rfl);go_wp2;refine bodyPost_ret (v:=zu1 ([107],[98],true)) (by simp[results,results103,go_sem,zu1]) rfl ⟨rfl,by rw[hE.out]⟩
               |false=>
                 cases q9:((m++(⟨#[32]⟩:ByteArray)++n).toList==[115,101,116,32,114,101,109])with
                 |true=>
                   have hE:Hid (zyw (m++(⟨#[32]⟩:ByteArray)++n).toList=([107],[98],true)):=(by unfold zyw;rw[if_neg (by simp only [q1];decide),if_neg (by simp only [q2];decide),if_neg (by simp only [q3];decide),if_neg (by simp only [q4];decide),if_neg (by simp only [q5];decide),if_neg (by simp only [q6];decide),if_neg (by simp only [q7];decide),if_neg (by simp only [q8];decide),if_pos q9];exact rfl);go_wp2;refine bodyPost_ret (v:=zu1 ([107],[98],true)) (by simp[results,results103,go_sem,zu1]) rfl ⟨rfl,by rw[hE.out]⟩
                 |false=>
                   cases q10:((m++(⟨#[32]⟩:ByteArray)++n).toList==[115,101,116,32,104,97,115])with
                   |true=>
                     have hE:Hid (zyw (m++(⟨#[32]⟩:ByteArray)++n).toList=([107],[98],true)):=(by unfold zyw;rw[if_neg (by simp only [q1];decide),if_neg (by simp only [q2];decide),if_neg (by simp only [q3];decide),if_neg (by simp only [q4];decide),if_neg (by simp only [q5];decide),if_neg (by simp only [q6];decide),if_neg (by simp only [q7];decide),if_neg (by simp only [q8];decide),if_neg (by simp only [q9];decide),if_pos q10];exact rfl);go_wp2;refine bodyPost_ret (v:=zu1 ([107],[98],true)) (by simp[results,results103,go_sem,zu1]) rfl ⟨rfl,by rw[hE.out]⟩
                   |false=>
                     cases q11:((m++(⟨#[32]⟩:ByteArray)++n).toList==[113,117,101,117,101,32,100,101,113])with
                     |true=>
                       have hE:Hid (zyw (m++(⟨#[32]⟩:ByteArray)++n).toList=([],[105,110],true)):=(by unfold zyw;rw[if_neg (by simp only [q1];decide),if_neg (by simp only [q2];decide),if_neg (by simp only [q3];decide),if_neg (by simp only [q4];decide),if_neg (by simp only [q5];decide),if_neg (by simp only [q6];decide),if_neg (by simp only [q7];decide),if_neg (by simp only [q8];decide),if_neg (by simp only [q9];decide),if_neg (by simp only [q10];decide),if_pos q11];exact rfl);go_wp2;refine bodyPost_ret (v:=zu1 ([],[105,110],true)) (by simp[results,results103,go_sem,zu1]) rfl ⟨rfl,by rw[hE.out]⟩
                     |false=>
                       cases q12:((m++(⟨#[32]⟩:ByteArray)++n).toList==[108,111,99,107,32,97,99,113])with
                       |true=>
                         have hE:Hid (zyw (m++(⟨#[32]⟩:ByteArray)++n).toList=([],[98],true)):=(by unfold zyw;rw[if_neg (by simp only [q1];decide),if_neg (by simp only [q2];decide),if_neg (by simp only [q3];decide),if_neg (by simp only [q4];decide),if_neg (by simp only [q5];decide),if_neg (by simp only [q6];decide),if_neg (by simp only [q7];decide),if_neg (by simp only [q8];decide),if_neg (by simp only [q9];decide),if_neg (by simp only [q10];decide),if_neg (by simp only [q11];decide),if_pos q12];exact rfl);go_wp2;refine bodyPost_ret (v:=zu1 ([],[98],true)) (by simp[results,results103,go_sem,zu1]) rfl ⟨rfl,by rw[hE.out]⟩
                       |false=>
                         cases q13:((m++(⟨#[32]⟩:ByteArray)++n).toList==[108,111,99,107,32,114,101,108])with
                         |true=>
                           have hE:Hid (zyw (m++(⟨#[32]⟩:ByteArray)++n).toList=([],[98],true)):=(by unfold zyw;rw[if_neg (by simp only [q1];decide),if_neg (by simp only [q2];decide),if_neg (by simp only [q3];decide),if_neg (by simp only [q4];decide),if_neg (by simp only [q5];decide),if_neg (by simp only [q6];decide),if_neg (by simp only [q7];decide),if_neg (by simp only [q8];decide),if_neg (by simp only [q9];decide),if_neg (by simp only [q10];decide),if_neg (by simp only [q11];decide),if_neg (by simp only [q12];decide),if_pos q13];exact rfl);go_wp2;refine bodyPost_ret (v:=zu1 ([],[98],true)) (by simp[results,results103,go_sem,zu1]) rfl ⟨rfl,by rw[hE.out]⟩
                         |false=>
                           have hE:Hid (zyw (m++(⟨#[32]⟩:ByteArray)++n).toList=([],[],false)):=(by unfold zyw;rw[if_neg (by simp only [q1];decide),if_neg (by simp only [q2];decide),if_neg (by simp only [q3];decide),if_neg (by simp only [q4];decide),if_neg (by simp only [q5];decide),if_neg (by simp only [q6];decide),if_neg (by simp only [q7];decide),if_neg (by simp only [q8];decide),if_neg (by simp only [q9];decide),if_neg (by simp only [q10];decide),if_neg (by simp only [q11];decide),if_neg (by simp only [q12];decide),if_neg (by simp only [q13];decide)];exact rfl);go_wp2;refine bodyPost_ret (v:=zu1 ([],[],false)) (by simp[results,results103,go_sem,zu1]) rfl ⟨rfl,by rw[hE.out]⟩
def modTab:List (List UInt8):=[sReg,sKv,zsK,sSet,zyy]
def z9C:Array Value:=(modTab.map fun l=>Value.string ⟨l.toArray⟩).toArray
def Mods (w:World):Prop:=w.var? prog "linear/linearref.Models"=some z9C
theorem Mods.below {w w':World}(h:Mods w)(k:Below 10 w w'):Mods w':=var?_below k (show prog.globalNamed "linear/linearref.Models"=some 1 by kernel_rfl) (by omega) h
theorem Mods.blk {w:World}(h:Mods w):∃t f,w.heap[1]?=some (.cells z9C t f):=by
 unfold Mods World.var? at h;rw[show prog.globalNamed "linear/linearref.Models"=some 1 by kernel_rfl]at h;simp only [Option.bind_some]at h;split at h
 ·rename_i cs t f hb;exact⟨t,f,by rw[hb];simp at h;rw[h]⟩
 ·cases h
def z3t (s:List UInt8):List (List UInt8)→Bool
 | []=>false
 |x::t=>(x==s)||z3t s t
theorem zJJ (s:ByteArray)(w:World)(ho:Mods w)(_hng:10≤w.heap.size):
 Calls prog 28 #[.string s] w fun e w'=>e=.returned (.bool (z3t s.toList modTab))∧w'=w:=by
 obtain⟨tt,ff,hb⟩:=ho.blk;go_enter func28,ntmps28;go_wp2;go_loop [3] (fun i=>∃j:Nat,j≤modTab.length∧i=.int .i64 j∧z3t s.toList (modTab.drop j)=z3t s.toList modTab) (fun i=>modTab.length-(intOf i).toNat)
 case atStart=>exact⟨0,Nat.zero_le _,rfl,rfl⟩
 case round=>
  obtain⟨j,hj,rfl,hR⟩:=hrel;have HR:Hid (z3t s.toList (modTab.drop j)=z3t s.toList modTab):=hR;clear hR;have hr:=zBk hb j;clear hb;by_cases hlt:j<modTab.length
  ·have hD:Hid (modTab.drop j=modTab[j]::modTab.drop (j+1)):=zKU _ j hlt;have hlt':(j:Int)<5:=(by simp[modTab]at hlt;omega);rw[show z9C[j]?=some (.string ⟨(modTab[j]).toArray⟩) by simp[z9C,hlt]]at hr;generalize modTab[j]=x at*;cases hq:(x==s.toList)with
   |true=>
     have hE:Hid (z3t s.toList modTab=true):=(by rw[←HR.out,hD.out];simp[z3t,hq,Hid]);clear HR hD;go_wp2;go_ret;exact⟨by rw[hE.out];rfl,rfl⟩
   |false=>
     have hE:Hid (z3t s.toList (modTab.drop (j+1))=z3t s.toList modTab):=(by rw[←HR.out,hD.out];simp[z3t,hq,Hid]);clear HR hD;go_wp2;go_round
     case rel=>exact⟨j+1,by omega,by go_num,hE.out⟩
     case measure=>simp[intOf];omega
  ·have hjl:j=modTab.length:=(by omega);have hE:Hid (z3t s.toList modTab=false):=(by rw[←HR.out,hjl,List.drop_length];exact rfl);have hlt':¬(j:Int)<5:=(by simp[modTab]at hlt;omega);clear HR hjl;go_wp2;go_ret;exact⟨by rw[hE.out];rfl,rfl⟩
end Go.Proofs.YtbbkihekjdffpaaGreatDoor
namespace Go.Proofs.YtbbkihekjdffpaaGreatDoor.srch
open Tryz
open Go.RowKit
theorem zzC (x:Int)(w:World):
 Calls prog 128 #[.int .i64 x] w fun e w'=>e=.returned (.bool false)∧w'=w:=by
 go_enter func128,ntmps128;go_wp2;go_ret;exact⟨by simp,rfl⟩
def cmpI (x y:Int):Int:=if x<y then -1 else if y<x then 1 else 0
theorem zMb (x y:Int)(w:World):
 Calls prog 90 #[.int .i64 x,.int .i64 y] w fun e w'=>e=.returned (.int .i64 (cmpI x y))∧w'=w:=by
 have hx:=fun W=>zzC x W;have hy:=fun W=>zzC y W;obtain⟨R,hR⟩:∃R,Hid (cmpI x y=R):=⟨_,rfl⟩;rw[hR.out];unfold cmpI at hR;go_enter func90,ntmps90;go_wp2_with fail;refine(hx _).mono ?_;rintro e w2 ⟨rfl,rfl⟩;go_wp2_with fail;refine(hy _).mono ?_;rintro e w3 ⟨rfl,rfl⟩;clear hx hy;by_cases h1:x<y
 ·have hE:Hid (R= -1):=by rw[←hR.out,if_pos h1];exact rfl
  clear hR;go_wp2;go_ret;exact⟨by rw[hE.out];rfl,rfl⟩
 ·by_cases h2:y<x
  ·have hE:Hid (R=1):=(by rw[←hR.out,if_neg h1,if_pos h2];exact rfl);clear hR;go_wp2;go_ret;exact⟨by rw[hE.out];rfl,rfl⟩
  ·have hE:Hid (R=0):=(by rw[←hR.out,if_neg h1,if_neg h2];exact rfl);clear hR;go_wp2;go_ret;exact⟨by rw[hE.out];rfl,rfl⟩
theorem zan:(prog.info? 161).map (fun i=>(i.zero,i.size,i.bytes))=some (some (.agg #[.int .u64 0,.int .u64 0]),2,16):=by kernel_rfl
theorem zv7 (n:Nat)(hn:n≤128)(w:World):(Instr.makeSlice 158 (.int .i64 (n:Int)) (.int .i64 (n:Int))).run prog w=.ok (.slice (some ⟨w.heap.size,0,none⟩) n n) (w.alloc (.cells (madeCells #[.int .u64 0,.int .u64 0] (n*2)) 161)):=by
 obtain⟨i0,hi0',hz0,hz1,hz2⟩:=info_parts zan;have h:=run_makeSlice (P:=prog) w 158 161 i0 _ underlying158 hi0' hz0 .i64 .i64 (n:Int) (n:Int) (by omega) (Int.le_refl _) (by rw[hz1];omega) (by rw[hz2];omega) (by omega);rw[hz1,show(n:Int).toNat=n by omega]at h;exact h
structure GRow (c:Array Value)(f:Nat→Gr)(n:Nat):Prop where
 size:c.size=n*2
 at0:∀j,j<n→c[j*2]?=some (.int .u64 (f j).1)
 at1:∀j,j<n→c[j*2+1]?=some (.int .u64 (f j).2)
theorem GRow.init (n:Nat):GRow (madeCells #[.int .u64 0,.int .u64 0] (n*2)) (fun _=>(0,0)) n:=by
 refine⟨by simp[madeCells],fun j hj=>?_,fun j hj=>?_⟩
 ·have:j*2<n*2:=by omega
  simp[madeCells,this]
 ·have:j*2+1<n*2:=by omega
  have e:(j*2+1)%2=1:=by omega
  simp[madeCells,this,e]
theorem GRow.set {c:Array Value}{f:Nat→Gr}{n j:Nat}(h:GRow c f n)(hj:j<n)(g:Gr)(f':Nat→Gr)(h1:f' j=g)(h2:∀k,k≠j→f' k=f k):
 GRow ((c.setIfInBounds (j*2) (.int .u64 g.1)).setIfInBounds (j*2+1) (.int .u64 g.2)) f' n:=by
 have hs:=h.size;refine⟨by simp[hs],fun k hk=>?_,fun k hk=>?_⟩
 ·by_cases e:k=j
  ·subst e;rw[h1];have:k*2<c.size:=(by omega);simp[this]
  ·rw[h2 k e,←h.at0 k hk];rw[Array.getElem?_setIfInBounds_ne (by omega),Array.getElem?_setIfInBounds_ne (by omega)]
 ·by_cases e:k=j
  ·subst e;rw[h1];have:k*2+1<c.size:=(by omega);simp[this]
  ·rw[h2 k e,←h.at1 k hk];rw[Array.getElem?_setIfInBounds_ne (by omega),Array.getElem?_setIfInBounds_ne (by omega)]
theorem GRow.congr {c:Array Value}{f f':Nat→Gr}{n:Nat}(h:GRow c f n)(e:∀k,k<n→f' k=f k):GRow c f' n:=
 ⟨h.size,fun j hj=>by rw[e j hj];exact h.at0 j hj,fun j hj=>by rw[e j hj];exact h.at1 j hj⟩
def ahB (o:OpV)(call:Int):Bool:=!(o.ret==0)&&decide (o.ret<call)
def ahG (call:Int):List OpV→Nat→Gr→Gr
 | [],_,g=>g
 |o::r,p,g=>ahG call r (p+1) (if ahB o call then zdS g p else g)
theorem zUN (call:Int)(ops:List OpV)(j:Nat)(h:j<ops.length):ahG call (ops.take (j+1)) 0 (0,0)=(if ahB ops[j] call then zdS (ahG call (ops.take j) 0 (0,0)) j else ahG call (ops.take j) 0 (0,0)):=by
 have key:∀(l:List OpV) (p:Nat) (g:Gr) (o:OpV),ahG call (l++[o]) p g=(if ahB o call then zdS (ahG call l p g) (p+l.length)else ahG call l p g):=by
  intro l
  induction l with
  |nil=>intro p g o;simp[ahG]
  |cons x r ih=>intro p g o;show ahG call (r++[o]) (p+1) _=_;rw[ih];simp only [ahG,List.length_cons];rw[show p+1+r.length=p+(r.length+1) by omega]
 rw[List.take_succ_eq_append_getElem h,key,List.length_take,Nat.min_eq_left (by omega),Nat.zero_add]
def zre (ops:List OpV)(k:Nat):Int:=(ops[k]?.map (·.call)).getD 0
def ahF (ops:List OpV)(j m:Nat):Nat→Gr:=fun k=>if k<j then ahG (zre ops k) ops 0 (0,0)else if k=j then ahG (zre ops k) (ops.take m) 0 (0,0)else(0,0)
theorem z6t (ops:List OpV)(j:Nat):ahF ops j ops.length=ahF ops (j+1) 0:=by
 funext k;unfold ahF;by_cases h1:k<j
 ·rw[if_pos h1,if_pos (by omega)]
 ·rw[if_neg h1];by_cases h2:k=j
  ·rw[if_pos h2,if_pos (by omega),List.take_length]
  ·rw[if_neg h2,if_neg (by omega)];by_cases h3:k=j+1
   ·rw[if_pos h3];rfl
   ·rw[if_neg h3]
theorem z66 (ops:List OpV):ahF ops 0 0=fun _=>(0,0):=by
 funext k;unfold ahF;rw[if_neg (by omega)];by_cases h:k=0
 ·rw[if_pos h];rfl
 ·rw[if_neg h]
theorem zpi (ops:List OpV)(j m:Nat):ahF ops j m j=ahG (zre ops j) (ops.take m) 0 (0,0):=by unfold ahF;rw[if_neg (by omega),if_pos rfl]
theorem zPh (ops:List OpV)(j m m' k:Nat)(h:k≠j):ahF ops j m k=ahF ops j m' k:=by unfold ahF;rw[if_neg h,if_neg h]
theorem zYL (oa:Option Addr)(cap:Nat)(ops:List OpV)(w:World)(hr:OAt w oa ops)(hl:ops.length≤128):
 Calls prog 78 #[.slice oa ops.length cap] w fun e w'=>e=.returned (.slice (some ⟨w.heap.size,0,none⟩) ops.length ops.length)∧(∃c,w'.heap[w.heap.size]?=some (.cells c 161 (0,0))∧GRow c (fun k=>ahG (zre ops k) ops 0 (0,0)) ops.length)∧Below w.heap.size w w':=by
 have hP:=fun o W=>znl o W;have hWi:=fun g p h W=>zxl g p h W;unfold opAg at hP;unfold grAg at*;have hmk:=zv7 ops.length hl;go_enter func78,ntmps78;go_wp2_with fail;go_loopw [13] (fun i wr=>∃(j:Nat) (c:Array Value),i=.int .i64 (j:Int)∧j≤ops.length∧wr.heap[w.heap.size]?=some (.cells c 161 (0,0))∧GRow c (ahF ops j 0) ops.length∧Below w.heap.size w wr) (fun i _=>ops.length-(intOf i).toNat)
 case atStart=>exact⟨0,_,rfl,by omega,ziF _ _ _ rfl,by rw[z66];exact GRow.init _,zA _ _⟩
 case round=>
  obtain⟨j,c,rfl,hj,hB,hG,hbl⟩:=hrel;clear hmk;by_cases hin:j<ops.length
  ·have hin':(j:Int)<(ops.length:Int):=(by omega);have hne:ops≠[]:=(by intro h;rw[h]at hin;simp at hin);obtain⟨g,hoa,hg,hc⟩:=(hr.below hbl) hne;have hcell:∀c u,c<10→(opvCells ops[j])[c]?=some u→wr.cell? ⟨g,j*10+c,none⟩=some u:=fun c u hcc hu=>hc _ _ ((zvc ops j hin c hcc).trans hu);subst hoa;have hcall:zre ops j=ops[j].call:=(by unfold zre;rw[zC hin];rfl);generalize ops[j]=o at*;have q0:wr.cell? ⟨g,j*10,none⟩=some (.int .i64 o.id):=hcell 0 _ (by omega) rfl;have q1:=hcell 1 _ (by omega) rfl;have q2:=hcell 2 _ (by omega) rfl;have q3:=hcell 3 _ (by omega) rfl;have q4:=hcell 4 _ (by omega) rfl;have q5:=hcell 5 _ (by omega) rfl;have q6:=hcell 6 _ (by omega) rfl;have q7:=hcell 7 _ (by omega) rfl;have q8:=hcell 8 _ (by omega) rfl;have q9:=hcell 9 _ (by omega) rfl;clear hcell hc;have hlt:=zBq hB;obtain⟨W0,hW0⟩:∃W0,wr.alloc (.cells #[.int .i64 o.id,.int .i64 o.cl,.string ⟨o.name.toArray⟩,.string ⟨o.key.toArray⟩,.int .i64 o.arg,.int .i64 o.exp,.int .i64 o.call,.int .i64 o.ret,.int .i64 o.vk,.int .i64 o.vn] 74)=W0:=⟨_,rfl⟩;have hbW:Below wr.heap.size wr W0:=(by rw[←hW0];exact zA _ _);have hBW:=(hbW.block _ hlt).trans hB;have hOW:W0.heap[wr.heap.size]?=some (.cells #[.int .i64 o.id,.int .i64 o.cl,.string ⟨o.name.toArray⟩,.string ⟨o.key.toArray⟩,.int .i64 o.arg,.int .i64 o.exp,.int .i64 o.call,.int .i64 o.ret,.int .i64 o.vk,.int .i64 o.vn] 74 (0,0)):=(by rw[←hW0];exact ziF _ _ _ rfl);have hc6:W0.cell? ⟨wr.heap.size,6,none⟩=some (.int .i64 o.call):=zBk hOW 6;have hblW:=hbl.trans (hbW.mono hbl.size);have hlO:=zBq hOW;go_wp2_with fail;clear hW0 hB hbW hOW q0 q1 q2 q3 q4 q5 q6 q7 q8 q9 hbl hg;generalize wr.heap.size=ob at*;clear wr;go_loopw [20] (fun i wi=>∃(m:Nat) (c:Array Value),i=.int .i64 (m:Int)∧m≤ops.length∧wi.heap[w.heap.size]?=some (.cells c 161 (0,0))∧GRow c (ahF ops j m) ops.length∧Below w.heap.size w wi∧wi.cell? ⟨ob,6,none⟩=some (.int .i64 o.call)∧ob<wi.heap.size) (fun i _=>ops.length-(intOf i).toNat)
   case atStart=>exact⟨0,_,rfl,by omega,hBW,hG,hblW,hc6,hlO⟩
   case round=>
    clear hBW hG hblW hc6 hlO;obtain⟨m,c,rfl,hm,hB,hG,hbl,hc6,hlO⟩:=hrel;by_cases hmn:m<ops.length
    ·have hmn':(m:Int)<(ops.length:Int):=(by omega);obtain⟨g',hg',hgl,hc⟩:=(hr.below hbl) hne;have hcell:∀c u,c<10→(opvCells ops[m])[c]?=some u→wr.cell? ⟨g,m*10+c,none⟩=some u:=by
      intro c u hcc hu;injection hg' with hg'';injection hg'' with hg3;rw[hg3];exact hc _ _ ((zvc ops m hmn c hcc).trans hu)
     have hT:=Hid.mk' (zUN o.call ops m hmn);generalize ops[m]=f at*;have q0:wr.cell? ⟨g,m*10,none⟩=some (.int .i64 f.id):=hcell 0 _ (by omega) rfl;have q1:=hcell 1 _ (by omega) rfl;have q2:=hcell 2 _ (by omega) rfl;have q3:=hcell 3 _ (by omega) rfl;have q4:=hcell 4 _ (by omega) rfl;have q5:=hcell 5 _ (by omega) rfl;have q6:=hcell 6 _ (by omega) rfl;have q7:=hcell 7 _ (by omega) rfl;have q8:=hcell 8 _ (by omega) rfl;have q9:=hcell 9 _ (by omega) rfl;have hPf:=hP f;have g0:wr.cell? ⟨w.heap.size,j*2,none⟩=some (.int .u64 (ahF ops j m j).1):=(zBk hB (j*2)).trans (hG.at0 j hin);have g1:wr.cell? ⟨w.heap.size,j*2+1,none⟩=some (.int .u64 (ahF ops j m j).2):=(zBk hB (j*2+1)).trans (hG.at1 j hin);have hSelf:=zpi ops j m;rw[hcall]at hSelf;have hSelf':=Hid.mk' hSelf;have hset:Hid (∀G',ahG o.call (ops.take (m+1)) 0 (0,0)=G'→GRow ((c.setIfInBounds (j*2) (.int .u64 G'.1)).setIfInBounds (j*2+1) (.int .u64 G'.2)) (ahF ops j (m+1)) ops.length):=fun G' h=>hG.set hin G' _ (by rw[zpi,hcall];exact h) (fun k hk=>zPh ops j (m+1) m k hk);have hsame:Hid (ahG o.call (ops.take (m+1)) 0 (0,0)=ahG o.call (ops.take m) 0 (0,0)→GRow c (ahF ops j (m+1)) ops.length):=fun h=>hG.congr (fun k hk=>by
      by_cases e:k=j
      ·rw[e,zpi,zpi,hcall];exact h
      ·exact zPh ops j (m+1) m k e)
     clear hcell hc hP hg' hgl hSelf hG;generalize ahF ops j m j=G at*;have hltA:=zBq hB;go_wp2_with fail;refine(hPf _).mono ?_;rintro e w2 ⟨rfl,hb2⟩;have hb02:Below wr.heap.size wr w2:=(zA _ _).trans (hb2.mono (by simp));have hB2:=(hb02.block _ hltA).trans hB;have hbl2:=hbl.trans (hb02.mono hbl.size);have hlO2:ob<w2.heap.size:=zH hlO hb02.size;have p6:=(hb02.cell (p:=⟨ob,6,none⟩) hlO).trans hc6;have p7:w2.cell? ⟨wr.heap.size,7,none⟩=some (.int .i64 f.ret):=(hb2.cell (p:=⟨wr.heap.size,7,none⟩) (by simp)).trans (by simp);have r0:=(hb02.cell (p:=⟨w.heap.size,j*2,none⟩) hltA).trans g0;have r1:=(hb02.cell (p:=⟨w.heap.size,j*2+1,none⟩) hltA).trans g1;clear hPf hb2 hb02 q0 q1 q2 q3 q4 q5 q6 q7 q8 q9 hB hbl g0 g1 hc6 hlO;cases hp:(f.ret==0)with
     |true=>
       have hE:=Hid.mk' (hsame.out (by rw[hT.out];unfold ahB;rw[hp];exact if_neg (by simp)));clear hT hp hsame hset;go_wp2_with fail;go_roundw
       case rel=>exact⟨m+1,_,by go_num,by omega,hB2,hE.out,hbl2,p6,hlO2⟩
       case measure=>simp[intOf];omega
     |false=>
       by_cases hq:f.ret<o.call
       ·have hE:=Hid.mk' (hset.out (zdS G m) (by rw[hT.out,←hSelf'.out];unfold ahB;rw[hp];exact if_pos (by simp[hq])));have hW:=hWi G m (by omega);clear hT hp hsame hset hWi hSelf';go_wp2_with fail;refine(hW _).mono ?_;rintro e w3 ⟨rfl,hb3⟩;have hB3:=(hb3.block _ (zBq hB2)).trans hB2;have hbl3:=hbl2.trans (hb3.mono hbl2.size);have s0:=(hb3.cell (p:=⟨w.heap.size,j*2,none⟩) (zBq hB2)).trans r0;have s1:=(hb3.cell (p:=⟨w.heap.size,j*2+1,none⟩) (zBq hB2)).trans r1;have p63:=(hb3.cell (p:=⟨ob,6,none⟩) hlO2).trans p6;have f0:=zBn hB3 (j*2);have f1:=zBn hB3 (j*2+1);generalize zdS G m=G' at*;have hk:=Hid.mk' (show Kept [w.heap.size] w3 ((w3.setCell ⟨w.heap.size,j*2,none⟩ (.int .u64 G'.1)).setCell ⟨w.heap.size,j*2+1,none⟩ (.int .u64 G'.2))from((Kept.refl _ _).setCell (p:=⟨w.heap.size,j*2,none⟩) (Or.inl (by simp)) _).setCell (p:=⟨w.heap.size,j*2+1,none⟩) (Or.inl (by simp)) _);have hlO3:ob<w3.heap.size:=zH hlO2 hb3.size;clear hW hb3 hB2 hbl2 r0 r1 p6 p7 hlO2;go_wp2_with fail;go_roundw
        case rel=>
         exact⟨m+1,_,by go_num,by omega,by rw[zFg (zFg hB3 (j*2) _) (j*2+1) _],hE.out,hbl3.trans (hk.out.below hbl3.size (by simp)),(hk.out.cell (p:=⟨ob,6,none⟩) hlO3 (by simp;omega)).trans p63,zH hlO3 hk.out.size⟩
        case measure=>simp[intOf];omega
       ·have hE:=Hid.mk' (hsame.out (by rw[hT.out];unfold ahB;rw[hp];exact if_neg (by simp;omega)));clear hT hp hsame hset;go_wp2_with fail;go_roundw
        case rel=>exact⟨m+1,_,by go_num,by omega,hB2,hE.out,hbl2,p6,hlO2⟩
        case measure=>simp[intOf];omega
    ·have hmn':¬(m:Int)<(ops.length:Int):=(by omega);obtain rfl:m=ops.length:=(by omega);rw[z6t]at hG;go_wp2_with fail;go_roundw
     case rel=>exact⟨j+1,_,by go_num,by omega,hB,hG,hbl⟩
     case measure=>simp[intOf];omega
  ·have hin':¬(j:Int)<(ops.length:Int):=(by omega);obtain rfl:j=ops.length:=(by omega);have hG':GRow c (fun k=>ahG (zre ops k) ops 0 (0,0)) ops.length:=hG.congr (fun k hk=>by unfold ahF;rw[if_pos hk]);clear hG hP hWi;go_wp2;go_ret;exact⟨rfl,⟨_,hB,hG'⟩,hbl⟩
structure Stp (σ:Type) where
 g:Gr
 st:σ
 pl:Nat
def takenL {σ:Type}(ops:List OpV)(l:List (Stp σ)):List OpV:=l.filterMap (fun s=>ops[s.pl]?)
theorem zZf {σ:Type}(ops:List OpV)(l:List (Stp σ))(j:Nat)(h:j<l.length)(hp:l[j].pl<ops.length):opsRow (takenL ops (l.take (j+1)))=opsRow (takenL ops (l.take j))++opvCells ops[l[j].pl]:=by
 have e:takenL ops (l.take (j+1))=takenL ops (l.take j)++[ops[l[j].pl]]:=by
  unfold takenL;rw[List.take_succ_eq_append_getElem h,List.filterMap_append];congr 1;rw[List.filterMap_cons,zC hp];rfl
 rw[e];unfold opsRow;rw[List.flatMap_append];simp
def WAt {σ:Type}(K:Nat)(sc:Stp σ→List Value)(w:World)(wa:Option Addr)(l:List (Stp σ)):Prop:=l≠[]→∃g,wa=some ⟨g,0,none⟩∧g<w.heap.size∧∀j (h:j<l.length) c u,c<K→(sc l[j])[c]?=some u→w.cell? ⟨g,j*K+c,none⟩=some u
theorem WAt.below {σ:Type}{K:Nat}{sc:Stp σ→List Value}{w w':World}{wa:Option Addr}{l:List (Stp σ)}(h:WAt K sc w wa l)(k:Below w.heap.size w w'):WAt K sc w' wa l:=by
 intro hne;obtain⟨g,h1,h2,h3⟩:=h hne;exact⟨g,h1,zH h2 k.size,fun j hj c u hc hu=>(k.cell (p:=⟨g,j*K+c,none⟩) h2).trans (h3 j hj c u hc hu)⟩
theorem zOu {P:Program} {w:World} {ops:Array Oper} {rest:List Oper} {o:Oper} {a:Act} {Q:Exit→Act→World→Prop} (hgd:o.guard=none) (s x:Operand) (t:TypeId)
 (ho:o.op=.call { callee:=.builtin .append,args:=#[s,x],argTypes:=#[t,t] }) (v xv v':Value) (w':World) (hs:a.eval s=v) (hx:a.eval x=xv) (hrun:(Builtin.append_ #[t,t] o.type #[v,xv]).run P w=.ok v' w')
 (h:wpList P ops Q rest (a.put o.dst v') w'):wpList P ops Q (o::rest) a w:=by
 refine wpList_plain hgd fun K hK=>?_;unfold Oper.wp execOp;simp only [ho,resolve,invoke,builtin,Sem.run_bind,Sem.run_pure,Result.andThen_ok,List.map_toArray,List.map_cons,List.map_nil,hs,hx,hrun];exact hK _ _ h
def ApR (ts tsl:TypeId)(K:Nat)(W:World)(base:Nat)(a:Option Addr)(n c:Nat)(xs cells:List Value):Prop:=
 ∃a' c' w',(Builtin.append_ #[tsl,tsl] tsl #[.slice a n c,.slice (some ⟨W.heap.size,0,none⟩) 1 1]).run prog (W.alloc (.cells cells.toArray ts))=.ok (.slice a' (n+1) c') w'∧w'.ownsRow base ts K (.slice a' (n+1) c') (n+1) (xs++cells)∧Kept (Value.slice a n c).ownBlock.toList W w'∧((Value.slice a' (n+1) c').ownBlock=(Value.slice a n c).ownBlock∨∃g,(Value.slice a' (n+1) c').ownBlock=some g∧W.heap.size≤g)
theorem zUq {ts tsl:TypeId}{K y:Nat}{z:Value}(hin:(prog.info? ts).map (fun i=>(i.zero,i.size,i.bytes))=some (some z,K,y))(hu:prog.underlying tsl=some (.slice ts))(hz:z.cells.size=K)(hK:0<K)(hy:y≤100){cells:List Value}(hc:cells.length=K)(h1:cells.all Value.oneCell'=true){W:World}{base:Nat}{a:Option Addr}{n c:Nat}{xs:List Value}(h:W.ownsRow base ts K (.slice a n c) n xs)(hn:n≤100000000)(hb:base≤W.heap.size):ApR ts tsl K W base a n c xs cells:=by
 obtain⟨i0,hi0',hz0,hz1,hz2⟩:=info_parts hin;have hm:(n+1)*y≤140737488355328:=Nat.le_trans (Nat.mul_le_mul_left (n+1) hy) (by omega);obtain⟨v7,w7,q1,q2,q3,_,q5⟩:=run_append_own_at (P:=prog) (W.alloc (.cells cells.toArray ts)) base tsl tsl ts i0 _ K y hu hi0' hz0 hz1 hz2 hz hK (.slice a n c) n xs (h.alloc _) ⟨W.heap.size,0,none⟩ 1 1 cells (by rw[hc,Nat.one_mul]) (z9R W _ _) (fun u hu=>List.all_eq_true.1 h1 u hu) (by unfold maxLen;omega) hm (by simp;omega);obtain⟨a',c',rfl⟩:=zIW q2;exact⟨a',c',w7,q1,q2,((Kept.refl _ W).alloc _).grownS q3 (fun g' hg'=>by rw[hg'];simp),q5.imp id (fun e=>⟨_,e,by simp⟩)⟩
theorem zpq (W:World)(base:Nat)(a:Option Addr)(n c:Nat)(xs:List Value)(s:OpV)(h:W.ownsRow base 74 10 (.slice a n c) n xs)(hn:n≤3000000)(hb:base≤W.heap.size):
 ∃a' c' w',(Builtin.append_ #[26,26] 26 #[.slice a n c,.slice (some ⟨W.heap.size,0,none⟩) 1 1]).run prog (W.alloc (.cells #[.int .i64 s.id,.int .i64 s.cl,.string ⟨s.name.toArray⟩,.string ⟨s.key.toArray⟩,.int .i64 s.arg,.int .i64 s.exp,.int .i64 s.call,.int .i64 s.ret,.int .i64 s.vk,.int .i64 s.vn] 74))=.ok (.slice a' (n+1) c') w'∧w'.ownsRow base 74 10 (.slice a' (n+1) c') (n+1) (xs++opvCells s)∧Below base W w':=by
 obtain⟨i0,hi0',hz0,hz1,hz2⟩:=info_parts zSl;obtain⟨v7,w7,h1,h2,h3,_⟩:=run_append_own (P:=prog) (W.alloc (.cells (opvCells s).toArray 74)) base 26 26 74 i0 _ 10 96 underlying26 hi0' hz0 hz1 hz2 rfl (by decide) (.slice a n c) n xs (h.alloc _) ⟨W.heap.size,0,none⟩ 1 1 (opvCells s) rfl (z9R W _ _) (by intro u hu;simp[opvCells]at hu;rcases hu with rfl|rfl|rfl|rfl|rfl|rfl|rfl|rfl|rfl|rfl<;>rfl) (by unfold maxLen;omega) (by omega) (by simp;omega);obtain⟨a',c',rfl⟩:=zIW h2;have hrow:∀g,(Value.slice a n c).ownBlock=some g→base≤g:=zYv h;have hk:Kept (Value.slice a n c).ownBlock.toList W w7:=((Kept.refl _ W).alloc _).grownS h3 (fun g' hg'=>by rw[hg'];simp);exact⟨a',c',w7,h1,h2,hk.below hb (fun g hg=>hrow g (by simpa using hg))⟩
def scI (s:Stp (Int)):List Value:=[.int .u64 s.g.1,.int .u64 s.g.2]++[.int .i64 s.st]++[.int .i64 (s.pl:Int)]
def scS (s:Stp (List UInt8)):List Value:=[.int .u64 s.g.1,.int .u64 s.g.2]++[.string ⟨s.st.toArray⟩]++[.int .i64 (s.pl:Int)]
def scB (s:Stp (Bool)):List Value:=[.int .u64 s.g.1,.int .u64 s.g.2]++[.bool s.st]++[.int .i64 (s.pl:Int)]
def zNx {σ:Type}(sc:Stp σ→List Value)(f:FuncId):Prop:=∀(oa wa:Option Addr) (cap wc:Nat) (ops:List OpV) (l:List (Stp σ)) (w:World),OAt w oa ops→WAt 4 sc w wa l→l.length≤2000000→(∀s∈l,s.pl<ops.length)→
    Calls prog f #[.slice oa ops.length cap,.slice wa l.length wc] w fun e w'=>∃a c,e=.returned (.slice a l.length c)∧w'.ownsRow w.heap.size 74 10 (.slice a l.length c) l.length (opsRow (takenL ops l))∧Below w.heap.size w w'
theorem taken_three:zNx scI 81∧zNx scS 98∧zNx scB 99:=by
 refine⟨?_,?_,?_⟩
 all_goals
  intro oa wa cap wc ops l w hr hw hl hp;obtain⟨i0,hi0',hz0,hz1,hz2⟩:=info_parts zSl;obtain⟨wm,hmk,hom,hgm⟩:=run_make_own (P:=prog) w w.heap.size 26 74 i0 _ 10 underlying26 hi0' hz0 hz1 .i64 .i64 l.length (by rw[hz2];omega) (by unfold maxLen;omega) zG;have hkm:Below w.heap.size w wm:=(((Kept.refl [] w).grownS hgm (fun g' hg'=>by simp at hg')).below zG (by simp));clear hi0' hz0 hz1 hz2 hgm
  first|go_enter func81,ntmps81|go_enter func98,ntmps98|go_enter func99,ntmps99
  go_wp2_with fail;go_loopw [5,13] (fun s i wr=>∃(j:Nat) (a:Option Addr) (c:Nat),s=.slice a j c∧i=.int .i64 (j:Int)∧j≤l.length∧wr.ownsRow w.heap.size 74 10 (.slice a j c) j (opsRow (takenL ops (l.take j)))∧Below w.heap.size w wr) (fun _ i _=>l.length-(intOf i).toNat)
  case atStart=>exact⟨0,_,_,rfl,rfl,by omega,hom,hkm⟩
  case round=>
   clear hmk hom hkm;obtain⟨j,a,c,rfl,rfl,hj,hown,hbl⟩:=hrel;by_cases hin:j<l.length
   ·have hin':(j:Int)<(l.length:Int):=(by omega);have hne:l≠[]:=(by intro h;rw[h]at hin;simp at hin);obtain⟨g,rfl,hg,hc⟩:=(hw.below hbl) hne;have hcell:=hc j hin;have hpl:=hp _ (List.getElem_mem hin);have hT:=Hid.mk' (zZf ops l j hin hpl);generalize l[j]=st at*;have q0:wr.cell? ⟨g,j*4,none⟩=some (.int .u64 st.g.1):=hcell 0 _ (by omega) rfl;have q1:=hcell 1 _ (by omega) rfl;have q2:=hcell 2 _ (by omega) rfl;have q3:=hcell 3 _ (by omega) rfl;have hpl':(st.pl:Int)<(ops.length:Int):=(by omega);have hno:ops≠[]:=(by intro h;rw[h]at hpl;simp at hpl);obtain⟨go,rfl,hgo,hco⟩:=(hr.below hbl) hno;have hocell:∀c u,c<10→(opvCells ops[st.pl])[c]?=some u→wr.cell? ⟨go,st.pl*10+c,none⟩=some u:=fun c u hcc hu=>hco _ _ ((zvc ops st.pl hpl c hcc).trans hu);generalize ops[st.pl]=o at*;have hW:∀ob,Below wr.heap.size wr (wr.alloc ob):=fun ob=>zA _ _
    first|(have z:Int:=st.st;clear z;obtain⟨W0,hW0⟩:∃W0,wr.alloc (.cells #[.int .u64 st.g.1,.int .u64 st.g.2,.int .i64 st.st,.int .i64 (st.pl:Int)] 175)=W0:=⟨_,rfl⟩)|(have z:List UInt8:=st.st;clear z;obtain⟨W0,hW0⟩:∃W0,wr.alloc (.cells #[.int .u64 st.g.1,.int .u64 st.g.2,.string ⟨st.st.toArray⟩,.int .i64 (st.pl:Int)] 212)=W0:=⟨_,rfl⟩)|(have z:Bool:=st.st;clear z;obtain⟨W0,hW0⟩:∃W0,wr.alloc (.cells #[.int .u64 st.g.1,.int .u64 st.g.2,.bool st.st,.int .i64 (st.pl:Int)] 221)=W0:=⟨_,rfl⟩)
    have hb0:Below wr.heap.size wr W0:=(by rw[←hW0];exact hW _);have hP0:W0.cell? ⟨wr.heap.size,3,none⟩=some (.int .i64 (st.pl:Int)):=(by rw[←hW0];simp);have hocell0:∀c u,c<10→(opvCells o)[c]?=some u→W0.cell? ⟨go,st.pl*10+c,none⟩=some u:=fun c u hcc hu=>(hb0.cell (p:=⟨go,st.pl*10+c,none⟩) hgo).trans (hocell c u hcc hu);have r0:W0.cell? ⟨go,st.pl*10,none⟩=some (.int .i64 o.id):=hocell0 0 _ (by omega) rfl;have r1:=hocell0 1 _ (by omega) rfl;have r2:=hocell0 2 _ (by omega) rfl;have r3:=hocell0 3 _ (by omega) rfl;have r4:=hocell0 4 _ (by omega) rfl;have r5:=hocell0 5 _ (by omega) rfl;have r6:=hocell0 6 _ (by omega) rfl;have r7:=hocell0 7 _ (by omega) rfl;have r8:=hocell0 8 _ (by omega) rfl;have r9:=hocell0 9 _ (by omega) rfl;have hown0:W0.ownsRow w.heap.size 74 10 (.slice a j c) j (opsRow (takenL ops (l.take j))):=(by rw[←hW0];exact hown.alloc _);have hbl0:=hbl.trans (hb0.mono hbl.size);obtain⟨a',c',w7,hap,hown7,hb7⟩:=zpq W0 w.heap.size a j c _ o hown0 (by omega) hbl0.size;have HX:=Hid.mk' (And.intro hown7 (hbl0.trans hb7));clear hcell hc hocell hocell0 hco hown hown0 hbl hbl0 hown7 hb7 hb0 hW;go_wp2_with (at_builtin;refine zOu rfl _ _ 26 rfl _ _ _ _ rfl rfl hap ?_);go_roundw
    case rel=>exact⟨j+1,a',c',rfl,by go_num,by omega,by rw[hT.out];exact HX.out.1,HX.out.2⟩
    case measure=>simp[intOf];omega
   ·have hin':¬(j:Int)<(l.length:Int):=(by omega);obtain rfl:j=l.length:=(by omega);rw[List.take_length]at hown;go_wp2;go_ret;exact⟨a,c,rfl,hown,hbl⟩
theorem zsi:zNx scI 81:=taken_three.1
theorem zfk:zNx scS 98:=taken_three.2.1
theorem zi9:zNx scB 99:=taken_three.2.2
def scP (s:Stp (Bool×Int)):List Value:=[.int .u64 s.g.1,.int .u64 s.g.2]++[.bool s.st.1,.int .i64 s.st.2]++[.int .i64 (s.pl:Int)]
theorem zT3 (oa wa:Option Addr)(cap wc:Nat)(ops:List OpV)(l:List (Stp (Bool×Int)))(w:World)(hr:OAt w oa ops)(hw:WAt 5 scP w wa l)(hl:l.length≤2000000)(hp:∀s∈l,s.pl<ops.length):
 Calls prog 91 #[.slice oa ops.length cap,.slice wa l.length wc] w fun e w'=>∃a c,e=.returned (.slice a l.length c)∧w'.ownsRow w.heap.size 74 10 (.slice a l.length c) l.length (opsRow (takenL ops l))∧Below w.heap.size w w':=by
 obtain⟨i0,hi0',hz0,hz1,hz2⟩:=info_parts zSl;obtain⟨wm,hmk,hom,hgm⟩:=run_make_own (P:=prog) w w.heap.size 26 74 i0 _ 10 underlying26 hi0' hz0 hz1 .i64 .i64 l.length (by rw[hz2];omega) (by unfold maxLen;omega) zG;have hkm:Below w.heap.size w wm:=(((Kept.refl [] w).grownS hgm (fun g' hg'=>by simp at hg')).below zG (by simp));clear hi0' hz0 hz1 hz2 hgm;go_enter func91,ntmps91;go_wp2_with fail;go_loopw [5,13] (fun s i wr=>∃(j:Nat) (a:Option Addr) (c:Nat),s=.slice a j c∧i=.int .i64 (j:Int)∧j≤l.length∧wr.ownsRow w.heap.size 74 10 (.slice a j c) j (opsRow (takenL ops (l.take j)))∧Below w.heap.size w wr) (fun _ i _=>l.length-(intOf i).toNat)
 case atStart=>exact⟨0,_,_,rfl,rfl,by omega,hom,hkm⟩
 case round=>
  clear hmk hom hkm;obtain⟨j,a,c,rfl,rfl,hj,hown,hbl⟩:=hrel;by_cases hin:j<l.length
  ·have hin':(j:Int)<(l.length:Int):=(by omega);have hne:l≠[]:=(by intro h;rw[h]at hin;simp at hin);obtain⟨g,rfl,hg,hc⟩:=(hw.below hbl) hne;have hcell:∀c u,c<5→(scP l[j])[c]?=some u→wr.cell? ⟨g,j*5+c,none⟩=some u:=fun c u hcc hu=>hc j hin c u hcc hu;have hpl:=hp _ (List.getElem_mem hin);have hT:=Hid.mk' (zZf ops l j hin hpl);generalize l[j]=st at*;have q0:wr.cell? ⟨g,j*5,none⟩=some (.int .u64 st.g.1):=hcell 0 _ (by omega) rfl;have q1:=hcell 1 _ (by omega) rfl;have q2:=hcell 2 _ (by omega) rfl;have q3:=hcell 3 _ (by omega) rfl;have q4:=hcell 4 _ (by omega) rfl;have hpl':(st.pl:Int)<(ops.length:Int):=(by omega);have hno:ops≠[]:=(by intro h;rw[h]at hpl;simp at hpl);obtain⟨go,rfl,hgo,hco⟩:=(hr.below hbl) hno;have hocell:∀c u,c<10→(opvCells ops[st.pl])[c]?=some u→wr.cell? ⟨go,st.pl*10+c,none⟩=some u:=fun c u hcc hu=>hco _ _ ((zvc ops st.pl hpl c hcc).trans hu);generalize ops[st.pl]=o at*;have hW:∀ob,Below wr.heap.size wr (wr.alloc ob):=fun ob=>zA _ _;obtain⟨W0,hW0⟩:∃W0,wr.alloc (.cells #[.int .u64 st.g.1,.int .u64 st.g.2,.bool st.st.1,.int .i64 st.st.2,.int .i64 (st.pl:Int)] 192)=W0:=⟨_,rfl⟩;have hb0:Below wr.heap.size wr W0:=(by rw[←hW0];exact hW _);have hP0:W0.cell? ⟨wr.heap.size,4,none⟩=some (.int .i64 (st.pl:Int)):=(by rw[←hW0];simp);have hocell0:∀c u,c<10→(opvCells o)[c]?=some u→W0.cell? ⟨go,st.pl*10+c,none⟩=some u:=fun c u hcc hu=>(hb0.cell (p:=⟨go,st.pl*10+c,none⟩) hgo).trans (hocell c u hcc hu);have r0:W0.cell? ⟨go,st.pl*10,none⟩=some (.int .i64 o.id):=hocell0 0 _ (by omega) rfl;have r1:=hocell0 1 _ (by omega) rfl;have r2:=hocell0 2 _ (by omega) rfl;have r3:=hocell0 3 _ (by omega) rfl;have r4:=hocell0 4 _ (by omega) rfl;have r5:=hocell0 5 _ (by omega) rfl;have r6:=hocell0 6 _ (by omega) rfl;have r7:=hocell0 7 _ (by omega) rfl;have r8:=hocell0 8 _ (by omega) rfl;have r9:=hocell0 9 _ (by omega) rfl;have hown0:W0.ownsRow w.heap.size 74 10 (.slice a j c) j (opsRow (takenL ops (l.take j))):=(by rw[←hW0];exact hown.alloc _);have hbl0:=hbl.trans (hb0.mono hbl.size);obtain⟨a',c',w7,hap,hown7,hb7⟩:=zpq W0 w.heap.size a j c _ o hown0 (by omega) hbl0.size;have HX:=Hid.mk' (And.intro hown7 (hbl0.trans hb7));clear hcell hc hocell hocell0 hco hown hown0 hbl hbl0 hown7 hb7 hb0 hW;go_wp2_with (at_builtin;refine zOu rfl _ _ 26 rfl _ _ _ _ rfl rfl hap ?_);go_roundw
   case rel=>exact⟨j+1,a',c',rfl,by go_num,by omega,by rw[hT.out];exact HX.out.1,HX.out.2⟩
   case measure=>simp[intOf];omega
  ·have hin':¬(j:Int)<(l.length:Int):=(by omega);obtain rfl:j=l.length:=(by omega);rw[List.take_length]at hown;go_wp2;go_ret;exact⟨a,c,rfl,hown,hbl⟩
theorem zFI (ops:List OpV):(opsRow ops).length=ops.length*10:=by
 induction ops with
 |nil=>rfl
 |cons o r ih=>
   rw[show opsRow (o::r)=opvCells o++opsRow r from rfl,zI,ih,List.length_cons];show 10+r.length*10=_;omega
theorem zlv (ops:List OpV):∀u∈opsRow ops,u.oneCell'=true:=by
 intro u hu;obtain⟨o,_,h⟩:=List.mem_flatMap.1 hu;simp[opvCells]at h;rcases h with rfl|rfl|rfl|rfl|rfl|rfl|rfl|rfl|rfl|rfl<;>rfl
theorem zR8 (oa:Option Addr)(cap:Nat)(ops:List OpV)(w:World)(hr:OAt w oa ops)(hl:ops.length≤128):
 Calls prog 122 #[.slice oa ops.length cap] w fun e w'=>∃a c,e=.returned (.slice a ops.length c)∧w'.ownsRow w.heap.size 74 10 (.slice a ops.length c) ops.length (opsRow ops)∧Below w.heap.size w w':=by
 have hq:∀(W:World) (a:Option Addr) (n c n' c':Nat),(binOp .eql 26 (.slice a n c) (.slice none n' c')).run prog W=.ok (.bool a.isNone) W:=fun W a n c n' c'=>Lib.run_eql_slice_nil W _ _ a n c n' c' underlying26;cases oa with
 |none=>
   have hn:ops=[]:=by
    by_cases h:ops=[]
    ·exact h
    ·obtain⟨g,h1,_⟩:=hr h;simp at h1
   subst hn;go_enter func122,ntmps122;go_wp2_with fail;go_ret;exact⟨none,0,rfl,World.ownsRow_nil _ _ _ _,zD⟩
 |some ad=>
   obtain⟨i0,hi0',hz0,hz1,hz2⟩:=info_parts zSl;have HR:=Hid.mk' hr;clear hr;go_enter func122,ntmps122;go_wp2_with (at_builtin;refine wpList_append_own _ rfl _ _ 26 rfl w.heap.size 74 i0 _ 10 96 underlying26 hi0' hz0 hz1 hz2 rfl (by decide) _ _ _ rfl (World.ownsRow_made w #[] 0 zG (Nat.zero_le _) rfl) ad ops.length cap (opsRow ops) rfl ?qc1 ?qc2 ?qc3 ?qc4 ?qc5 ?qc6 ?_)
   case qc1=>exact zFI ops
   case qc2=>
    intro j u hj;have hne:ops≠[]:=(by intro h;rw[h]at hj;simp[opsRow]at hj);obtain⟨g,h1,h2,h3⟩:=HR.out hne;injection h1 with h1;subst h1;rw[Addr.add_lit,Nat.zero_add];exact Lib.cell?_alloc_some _ (h3 j u hj)
   case qc3=>exact zlv ops
   case qc4=>unfold maxLen;omega
   case qc5=>omega
   case qc6=>simp
   intro v' w1 hown hgrow hnil;obtain⟨a',c',rfl⟩:=zIW hown;go_wp2;go_ret;exact⟨a',c',rfl,hown,((Below.refl _ w).alloc zG _).grown hgrow (by simp) (by intro k hk;simp[Value.ownBlock]at hk;omega)⟩
abbrev Hap:=Int×OpV
def hapCells (h:Hap):List Value:=.int .i64 h.1::opvCells h.2
def hapRow (l:List Hap):List Value:=l.flatMap hapCells
def hapF (s:Int×List Hap)(o:OpV):Int×List Hap:=(max s.1 o.call,s.2++[(max s.1 o.call,o)])
def hapsOf (ops:List OpV):Int×List Hap:=ops.foldl hapF (0,[])
theorem zcX (ops:List OpV)(j:Nat)(h:j<ops.length):hapsOf (ops.take (j+1))=hapF (hapsOf (ops.take j)) ops[j]:=by
 unfold hapsOf;rw[List.take_succ_eq_append_getElem h,List.foldl_append];rfl
theorem zVO:(prog.info? 181).map (fun i=>(i.zero,i.size,i.bytes))=some (some (.agg #[.int .i64 0,.int .i64 0,.int .i64 0,.string ⟨#[]⟩,.string ⟨#[]⟩,.int .i64 0,.int .i64 0,.int .i64 0,.int .i64 0,.int .i64 0,.int .i64 0]),11,104):=by kernel_rfl
theorem zRU (W:World)(base:Nat)(a:Option Addr)(n c:Nat)(xs:List Value)(m:Int)(s:OpV)(h:W.ownsRow base 181 11 (.slice a n c) n xs)(hn:n≤1000)(hb:base≤W.heap.size):
 ∃a' c' w',(Builtin.append_ #[177,177] 177 #[.slice a n c,.slice (some ⟨W.heap.size,0,none⟩) 1 1]).run prog (W.alloc (.cells #[.int .i64 m,.int .i64 s.id,.int .i64 s.cl,.string ⟨s.name.toArray⟩,.string ⟨s.key.toArray⟩,.int .i64 s.arg,.int .i64 s.exp,.int .i64 s.call,.int .i64 s.ret,.int .i64 s.vk,.int .i64 s.vn] 181))=.ok (.slice a' (n+1) c') w'∧w'.ownsRow base 181 11 (.slice a' (n+1) c') (n+1) (xs++hapCells (m,s))∧Below base W w':=by
 obtain⟨i0,hi0',hz0,hz1,hz2⟩:=info_parts zVO;obtain⟨v7,w7,h1,h2,h3,_⟩:=run_append_own (P:=prog) (W.alloc (.cells (hapCells (m,s)).toArray 181)) base 177 177 181 i0 _ 11 104 underlying177 hi0' hz0 hz1 hz2 rfl (by decide) (.slice a n c) n xs (h.alloc _) ⟨W.heap.size,0,none⟩ 1 1 (hapCells (m,s)) rfl (z9R W _ _) (by intro u hu;simp[hapCells,opvCells]at hu;rcases hu with rfl|rfl|rfl|rfl|rfl|rfl|rfl|rfl|rfl|rfl|rfl<;>rfl) (by unfold maxLen;omega) (by omega) (by simp;omega);obtain⟨a',c',rfl⟩:=zIW h2;have hrow:∀g,(Value.slice a n c).ownBlock=some g→base≤g:=zYv h;have hk:Kept (Value.slice a n c).ownBlock.toList W w7:=((Kept.refl _ W).alloc _).grownS h3 (fun g' hg'=>by rw[hg'];simp);exact⟨a',c',w7,h1,h2,hk.below hb (fun g hg=>hrow g (by simpa using hg))⟩
theorem zd6X (oa:Option Addr)(cap:Nat)(ops:List OpV)(w:World)(hr:OAt w oa ops)(hl:ops.length≤128):
 Calls prog 87 #[.slice oa ops.length cap] w fun e w'=>∃a c,e=.returned (.slice a ops.length c)∧w'.ownsRow w.heap.size 181 11 (.slice a ops.length c) ops.length (hapRow (hapsOf ops).2)∧Below w.heap.size w w':=by
 go_enter func87,ntmps87;go_wp2_with fail;go_loopw [3,4,9] (fun s ln i wr=>∃(j:Nat) (a:Option Addr) (c:Nat),s=.slice a j c∧ln=.int .i64 (hapsOf (ops.take j)).1∧i=.int .i64 (j:Int)∧j≤ops.length∧wr.ownsRow w.heap.size 181 11 (.slice a j c) j (hapRow (hapsOf (ops.take j)).2)∧Below w.heap.size w wr) (fun _ _ i _=>ops.length-(intOf i).toNat)
 case atStart=>exact⟨0,none,0,rfl,rfl,rfl,by omega,World.ownsRow_nil _ _ _ _,zD⟩
 case round=>
  obtain⟨j,a,c,rfl,rfl,rfl,hj,hown,hbl⟩:=hrel;by_cases hin:j<ops.length
  ·have hin':(j:Int)<(ops.length:Int):=(by omega);have hne:ops≠[]:=(by intro h;rw[h]at hin;simp at hin);obtain⟨g,rfl,hg,hc⟩:=(hr.below hbl) hne;have hcell:∀c u,c<10→(opvCells ops[j])[c]?=some u→wr.cell? ⟨g,j*10+c,none⟩=some u:=fun c u hcc hu=>hc _ _ ((zvc ops j hin c hcc).trans hu);have hT:=Hid.mk' (zcX ops j hin);generalize ops[j]=o at*;generalize hapsOf (ops.take j)=H at*;obtain⟨M,L⟩:=H;have q0:wr.cell? ⟨g,j*10,none⟩=some (.int .i64 o.id):=hcell 0 _ (by omega) rfl;have q1:=hcell 1 _ (by omega) rfl;have q2:=hcell 2 _ (by omega) rfl;have q3:=hcell 3 _ (by omega) rfl;have q4:=hcell 4 _ (by omega) rfl;have q5:=hcell 5 _ (by omega) rfl;have q6:=hcell 6 _ (by omega) rfl;have q7:=hcell 7 _ (by omega) rfl;have q8:=hcell 8 _ (by omega) rfl;have q9:=hcell 9 _ (by omega) rfl;obtain⟨W0,hW0⟩:∃W0,wr.alloc (.cells #[.int .i64 o.id,.int .i64 o.cl,.string ⟨o.name.toArray⟩,.string ⟨o.key.toArray⟩,.int .i64 o.arg,.int .i64 o.exp,.int .i64 o.call,.int .i64 o.ret,.int .i64 o.vk,.int .i64 o.vn] 74)=W0:=⟨_,rfl⟩;have hb0:Below wr.heap.size wr W0:=(by rw[←hW0];exact zA _ _);have hOW:W0.heap[wr.heap.size]?=some (.cells #[.int .i64 o.id,.int .i64 o.cl,.string ⟨o.name.toArray⟩,.string ⟨o.key.toArray⟩,.int .i64 o.arg,.int .i64 o.exp,.int .i64 o.call,.int .i64 o.ret,.int .i64 o.vk,.int .i64 o.vn] 74 (0,0)):=(by rw[←hW0];exact ziF _ _ _ rfl);have r0:=zBk hOW 0;have r1:=zBk hOW 1;have r2:=zBk hOW 2;have r3:=zBk hOW 3;have r4:=zBk hOW 4;have r5:=zBk hOW 5;have r6:=zBk hOW 6;have r7:=zBk hOW 7;have r8:=zBk hOW 8;have r9:=zBk hOW 9;have hown0:W0.ownsRow w.heap.size 181 11 (.slice a j c) j (hapRow L):=(by rw[←hW0];exact hown.alloc _);have hbl0:=hbl.trans (hb0.mono hbl.size);have hfin:Hid (∀m,m=max M o.call→hapsOf (ops.take (j+1))=(m,L++[(m,o)])):=fun m hm=>(by rw[hT.out,hm];rfl);obtain⟨m,hm⟩:∃m,max M o.call=m:=⟨_,rfl⟩;obtain⟨a',c',w7,hap,hown7,hb7⟩:=zRU W0 w.heap.size a j c _ m o hown0 (by omega) hbl0.size;have HX:=Hid.mk' (And.intro hown7 (hbl0.trans hb7));have HM:=Hid.mk' hm;clear hcell hc hown hown0 hbl hbl0 hown7 hb7 hb0 hOW hT;go_wp2_with (at_builtin;refine zOu rfl _ _ 177 rfl _ _ _ _ rfl rfl hap ?_);have hE:=hfin.out m HM.out.symm;have hRow:hapRow (L++[(m,o)])=hapRow L++hapCells (m,o):=(by simp[hapRow]);go_roundw
   case rel=>exact⟨j+1,a',c',rfl,by rw[hE],by go_num,by omega,by rw[hE];show World.ownsRow _ _ _ _ _ _ (hapRow (L++[(m,o)]));rw[hRow];exact HX.out.1,HX.out.2⟩
   case measure=>simp[intOf];omega
  ·have hin':¬(j:Int)<(ops.length:Int):=(by omega);obtain rfl:j=ops.length:=(by omega);rw[List.take_length]at hown;go_wp2;go_ret;exact⟨a,c,rfl,hown,hbl⟩
def zOh (h:Hap):Value:=.agg #[.int .i64 h.1,.int .i64 h.2.id,.int .i64 h.2.cl,.string ⟨h.2.name.toArray⟩,.string ⟨h.2.key.toArray⟩,.int .i64 h.2.arg,.int .i64 h.2.exp,.int .i64 h.2.call,.int .i64 h.2.ret,.int .i64 h.2.vk,.int .i64 h.2.vn]
theorem whole_any (oa:Option Addr)(n cap:Nat)(w:World):
 Calls Tryz.prog 22 #[.slice oa n cap] w fun e w'=>e=.returned (.slice (some ⟨w.heap.size,0,none⟩) 1 1)∧w'.heap[w.heap.size]?=some (.cells #[.string ⟨#[45]⟩,.slice oa n cap] 101 (0,0))∧Below w.heap.size w w':=by
 go_enter Tryz.func22,Tryz.ntmps22;go_wp2_with fail;go_ret;exact⟨rfl,ziF _ _ _ rfl,zA _ _⟩
theorem strInfo:(prog.info? 9).map (fun i=>(i.zero,i.size,i.bytes))=some (some (.string ⟨#[]⟩),1,16):=by kernel_rfl
abbrev Pow (w:World):Prop:=Lib.TabIs prog w "internal/strconv.uint64pow10" .u64 Lib.pow10Tab
theorem Pow.stays {w w':World}(h:Pow w)(hb:Below w.heap.size w w'):Pow w':=Go.Joins.tab_stays (B:=w.heap.size) (g:=2) (by kernel_rfl) h hb zG
def idB (o:OpV):ByteArray:=⟨(Lib.itoa o.id).toArray⟩
def zGg (ops:List OpV):List Value:=ops.map (fun o=>.string (idB o))
theorem zvv (ops:List OpV)(j:Nat)(h:j<ops.length):zGg (ops.take (j+1))=zGg (ops.take j)++[.string (idB ops[j])]:=by
 unfold zGg;rw[List.take_succ_eq_append_getElem h,List.map_append];rfl
def idsT (ops:List OpV):List UInt8:=Lib.join (ops.map (fun o=>Lib.itoa o.id)) [44]
theorem zeF (W:World)(base:Nat)(a:Option Addr)(n c:Nat)(xs:List Value)(s:ByteArray)(h:W.ownsRow base 9 1 (.slice a n c) n xs)(hn:n≤1000)(hb:base≤W.heap.size):
 ∃a' c' w',(Builtin.append_ #[67,67] 67 #[.slice a n c,.slice (some ⟨W.heap.size,0,none⟩) 1 1]).run prog (W.alloc (.cells #[.string s] 9))=.ok (.slice a' (n+1) c') w'∧w'.ownsRow base 9 1 (.slice a' (n+1) c') (n+1) (xs++[.string s])∧Below base W w':=by
 obtain⟨i0,hi0',hz0,hz1,hz2⟩:=info_parts strInfo;obtain⟨v7,w7,h1,h2,h3,_⟩:=run_append_own (P:=prog) (W.alloc (.cells [Value.string s].toArray 9)) base 67 67 9 i0 _ 1 16 underlying67 hi0' hz0 hz1 hz2 rfl (by decide) (.slice a n c) n xs (h.alloc _) ⟨W.heap.size,0,none⟩ 1 1 [.string s] rfl (z9R W _ _) (by intro u hu;simp at hu;subst hu;rfl) (by unfold maxLen;omega) (by omega) (by simp;omega);obtain⟨a',c',rfl⟩:=zIW h2;have hrow:∀g,(Value.slice a n c).ownBlock=some g→base≤g:=zYv h;have hk:Kept (Value.slice a n c).ownBlock.toList W w7:=((Kept.refl _ W).alloc _).grownS h3 (fun g' hg'=>by rw[hg'];simp);exact⟨a',c',w7,h1,h2,hk.below hb (fun g hg=>hrow g (by simpa using hg))⟩
theorem zZ4 (l:List OpV)(hid:∀o∈l,-9223372036854775808≤o.id∧o.id≤9223372036854775807):Lib.lens (l.map (fun o=>Lib.itoa o.id))≤21*l.length:=by
 induction l with
 |nil=>simp[Lib.lens]
 |cons o r ih=>
   have h1:=ih (fun x hx=>hid x (List.mem_cons_of_mem _ hx));have h2:=Lib.itoa_length_le o.id (hid o (by simp)).1 (hid o (by simp)).2;simp only [List.map_cons,Lib.lens,List.length_cons,List.sum_cons]at*;omega
theorem zYp (a:Option Addr)(c:Nat)(ops:List OpV)(w:World)(base:Nat)(hown:w.ownsRow base 9 1 (.slice a ops.length c) ops.length (zGg ops))(hl:ops.length≤128)(hid:∀o∈ops,-9223372036854775808≤o.id∧o.id≤9223372036854775807):
 Calls prog 86 #[.slice a ops.length c,.string ⟨#[44]⟩] w fun e w'=>e=.returned (.string ⟨(idsT ops).toArray⟩)∧Below w.heap.size w w':=by
 cases ops with
 |nil=>
   refine(Tryz.strings_Join_none a c ⟨#[44]⟩ w).mono ?_;rintro e w' ⟨rfl,rfl⟩;exact⟨rfl,zD⟩
 |cons o r=>
   rcases hown.2 with ⟨h1,h2⟩|⟨g,cap,cur,hv,hbg,hg,hcap,_⟩
   ·simp at h2
   ·injection hv with hv1 hv2 hv3;subst hv1;subst hv3;have hc:=hown.cells (g:=g) rfl;have hlen:((o::r).map idB).length=(o::r).length:=(by simp);have hm:((o::r).map idB).map (·.data.toList)=(o::r).map (fun o=>Lib.itoa o.id):=(by simp[idB]);have hJ:=Tryz.strings_Join g 0 c ((o::r).map idB) ⟨#[44]⟩ w (by
     intro j x hx;have:=hc j (.string x) (by unfold zGg;rw[List.getElem?_map]at hx⊢;cases e:(o::r)[j]? with|none=>rw[e]at hx;simp at hx|some y=>rw[e]at hx;simp at hx;simp[hx]);rw[Addr.add_lit]at this;exact this) (zBq hg) (by rw[hlen];omega) (by rw[hlen];exact hcap) (by
     rw[hm,List.map_cons,Lib.join_length];have:=zZ4 (o::r) hid;simp only [List.map_cons,List.length_cons,List.length_map]at*;show 1*r.length+_≤_;omega)
    rw[hlen,hm]at hJ;exact hJ
theorem ids_any (oa:Option Addr)(cap:Nat)(ops:List OpV)(w:World)(hr:OAt w oa ops)(hl:ops.length≤128)(hid:∀o∈ops,-9223372036854775808≤o.id∧o.id≤9223372036854775807)(hp:Pow w):
 Calls prog 45 #[.slice oa ops.length cap] w fun e w'=>e=.returned (.string ⟨(idsT ops).toArray⟩)∧Below w.heap.size w w':=by
 go_enter func45,ntmps45;go_wp2_with fail;go_loopw [3,8] (fun s i wr=>∃(j:Nat) (a:Option Addr) (c:Nat),s=.slice a j c∧i=.int .i64 (j:Int)∧j≤ops.length∧wr.ownsRow w.heap.size 9 1 (.slice a j c) j (zGg (ops.take j))∧Below w.heap.size w wr) (fun _ i _=>ops.length-(intOf i).toNat)
 case atStart=>exact⟨0,none,0,rfl,rfl,by omega,World.ownsRow_nil _ _ _ _,zD⟩
 case round=>
  obtain⟨j,a,c,rfl,rfl,hj,hown,hbl⟩:=hrel;by_cases hin:j<ops.length
  ·have hin':(j:Int)<(ops.length:Int):=(by omega);have hne:ops≠[]:=(by intro h;rw[h]at hin;simp at hin);obtain⟨g,rfl,hg,hc⟩:=(hr.below hbl) hne;have hcell:∀c u,c<10→(opvCells ops[j])[c]?=some u→wr.cell? ⟨g,j*10+c,none⟩=some u:=fun c u hcc hu=>hc _ _ ((zvc ops j hin c hcc).trans hu);have hT:=Hid.mk' (zvv ops j hin);have hio:=hid _ (List.getElem_mem hin);generalize ops[j]=o at*;have q0:wr.cell? ⟨g,j*10,none⟩=some (.int .i64 o.id):=hcell 0 _ (by omega) rfl;have q1:=hcell 1 _ (by omega) rfl;have q2:=hcell 2 _ (by omega) rfl;have q3:=hcell 3 _ (by omega) rfl;have q4:=hcell 4 _ (by omega) rfl;have q5:=hcell 5 _ (by omega) rfl;have q6:=hcell 6 _ (by omega) rfl;have q7:=hcell 7 _ (by omega) rfl;have q8:=hcell 8 _ (by omega) rfl;have q9:=hcell 9 _ (by omega) rfl;obtain⟨W0,hW0⟩:∃W0,wr.alloc (.cells #[.int .i64 o.id,.int .i64 o.cl,.string ⟨o.name.toArray⟩,.string ⟨o.key.toArray⟩,.int .i64 o.arg,.int .i64 o.exp,.int .i64 o.call,.int .i64 o.ret,.int .i64 o.vk,.int .i64 o.vn] 74)=W0:=⟨_,rfl⟩;have hb0:Below wr.heap.size wr W0:=(by rw[←hW0];exact zA _ _);have hOW:W0.heap[wr.heap.size]?=some (.cells #[.int .i64 o.id,.int .i64 o.cl,.string ⟨o.name.toArray⟩,.string ⟨o.key.toArray⟩,.int .i64 o.arg,.int .i64 o.exp,.int .i64 o.call,.int .i64 o.ret,.int .i64 o.vk,.int .i64 o.vn] 74 (0,0)):=(by rw[←hW0];exact ziF _ _ _ rfl);have r0:=zBk hOW 0;have hown0:W0.ownsRow w.heap.size 9 1 (.slice a j c) j (zGg (ops.take j)):=(by rw[←hW0];exact hown.alloc _);have hbl0:=hbl.trans (hb0.mono hbl.size);have hF:=Tryz.strconv_FormatInt_10 o.id hio.1 hio.2 W0 (hp.stays hbl0);have hA:=fun W h=>zeF W w.heap.size a j c (zGg (ops.take j)) (idB o) h (by omega);have HX:=Hid.mk' (And.intro hown0 hbl0);clear hcell hc hown hown0 hbl hbl0 hb0 hOW;go_wp2_with fail;refine hF.mono ?_;rintro e w2 ⟨rfl,k,os,hw2⟩;have hb2:Below W0.heap.size W0 w2:=(by rw[hw2];exact Lib.below_grow _ _ zG _ _);have hown2:=zzF HX.out.1 (Kept.of_below (S:=[]) hb2) (by simp);have hbl2:=HX.out.2.trans (hb2.mono HX.out.2.size);obtain⟨a',c',w7,hap,hown7,hb7⟩:=hA w2 hown2 hbl2.size;have HY:=Hid.mk' (And.intro hown7 (hbl2.trans hb7));clear hw2 hb2 hown2 hbl2 hown7 hb7 hA hF HX;unfold idB at hap;go_wp2_with (at_builtin;refine zOu rfl _ _ 67 rfl _ _ _ _ rfl rfl hap ?_);go_roundw
   case rel=>exact⟨j+1,a',c',rfl,by go_num,by omega,by rw[hT.out];exact HY.out.1,HY.out.2⟩
   case measure=>simp[intOf];omega
  ·have hin':¬(j:Int)<(ops.length:Int):=(by omega);obtain rfl:j=ops.length:=(by omega);rw[List.take_length]at hown;have hJ:Calls prog 86 #[.slice a ops.length c,.string ⟨#[44]⟩] wr fun e w'=>e=.returned (.string ⟨(idsT ops).toArray⟩)∧Below wr.heap.size wr w':=zYp a c ops wr _ hown hl hid;have HB:=Hid.mk' hbl;clear hown hbl;go_wp2_with fail;refine hJ.mono ?_;rintro e w2 ⟨rfl,hb2⟩;go_wp2;go_ret;exact⟨rfl,HB.out.trans (hb2.mono HB.out.size)⟩
theorem z88 (n:Int)(h0: -9223372036854775808≤n)(h1:n≤9223372036854775807)(w:World)(hp:Pow w):
 Calls prog 237 #[.int .i64 n] w fun e w'=>e=.returned (.string ⟨(Lib.itoa n).toArray⟩)∧Below w.heap.size w w':=by
 have hF:=Tryz.strconv_FormatInt_10 n h0 h1 w hp;go_enter func237,ntmps237;go_wp2_with fail;refine hF.mono ?_;rintro e w2 ⟨rfl,k,os,hw2⟩;have hb2:Below w.heap.size w w2:=by rw[hw2];exact Lib.below_grow _ _ zG _ _
 clear hw2 hF;go_wp2;go_ret;exact⟨rfl,hb2⟩
def decP (s:List UInt8):Option Int:=
 match Lib.parseIntB 64 s with
 |.ok v=>if Lib.itoa v=s then some v else none
 |_=>none
theorem decP_ok {s:List UInt8}{v:Int}(h:Lib.parseIntB 64 s=.ok v):decP s=if Lib.itoa v=s then some v else none:=by unfold decP;rw[h]
theorem zgx {s:List UInt8}(h:∀v,Lib.parseIntB 64 s≠.ok v):decP s=none:=by
 unfold decP;cases e:Lib.parseIntB 64 s with
 |ok v=>exact absurd e (h v)
 |«syntax»=>rfl
 |range=>rfl
theorem zJf (s:List UInt8)(w:World)(hs:s.length≤100000000)(he:Errs w)(hp:Pow w):
 Calls prog 238 #[.string ⟨s.toArray⟩] w fun e w'=>e=.returned (.tuple #[.int .i64 ((decP s).getD 0),.bool (decP s).isSome])∧Below w.heap.size w w':=by
 have hI:=zbw ⟨s.toArray⟩ w he (by show s.toArray.size≤_;simp;omega);obtain⟨R,hR⟩:∃R,Hid (decP s=R):=⟨_,rfl⟩;rw[hR.out];go_enter func238,ntmps238;go_wp2_with fail;refine hI.mono ?_;rintro e w2 ⟨x,ev,rfl,hb2,hc⟩;clear hI;rcases hc with ⟨rfl,hx⟩|⟨⟨N,rfl⟩,hx⟩
 ·have hbd:=Lib.parseIntB_bounds hx;have hd:=z88 x (by have:=hbd.1;omega) (by have:=hbd.2;omega) w2 (hp.stays hb2);have hE:=Hid.mk' (hR.out.symm.trans (decP_ok hx));clear hx hbd hR;go_wp2_with fail;refine hd.mono ?_;rintro e w3 ⟨rfl,hb3⟩;have hb:=hb2.trans (hb3.mono hb2.size);clear hd hb3;cases hq:(Lib.itoa x==s)with
  |true=>
    have hE2:=Hid.mk' (hE.out.trans (if_pos (by simpa using hq)));clear hE;go_wp2;go_ret2;exact⟨by rw[hE2.out];rfl,hb⟩
  |false=>
    have hE2:=Hid.mk' (hE.out.trans (if_neg (by simpa using hq)));clear hE;go_wp2;go_ret2;exact⟨by rw[hE2.out];rfl,hb⟩
 ·have hE:=Hid.mk' (hR.out.symm.trans (zgx hx));clear hx hR;go_wp2_with fail;go_ret2;exact⟨by rw[hE.out];rfl,hb2⟩
def quDo (st:List UInt8)(o:OpV):List UInt8×Int×Int:=
 if o.name=[101,110,113]then(if st=[]then(Lib.itoa o.arg,0,0)else(st++[44]++Lib.itoa o.arg,0,0))
 else if o.name=[100,101,113]then(if(decP (Lib.cut st [44]).1).isSome then((Lib.cut st [44]).2.1,1,(decP (Lib.cut st [44]).1).getD 0)else(st,0,0))else(st,0,0)
theorem zUU (tm:Array Value)(W:World)(b:Nat)(s v0 v1:Value)(h6:tm[6]?.getD undef=s)(h7:tm[7]?.getD undef=.pointer (some ⟨b,0,none⟩))(hb:W.heap[b]?=some (.cells #[v0,v1] 72 (0,0))):
 (results Tryz.f235 tm).run prog W=.ok (.tuple #[s,.agg #[v0,v1]]) W:=by
 have c0:W.cell? ⟨b,0,none⟩=some v0:=by rw[zBk hb];rfl
 have c1:W.cell? ⟨b,1,none⟩=some v1:=by rw[zBk hb];rfl
 simp[results,results235,go_sem,h6,h7,c0,c1]
theorem ba3 (a c:List UInt8):(⟨a.toArray⟩:ByteArray)++⟨#[44]⟩++⟨c.toArray⟩=⟨(a++[44]++c).toArray⟩:=by
 apply ByteArray.ext;simp
theorem zQ4 (t:List UInt8):(Lib.cut t [44]).1.length≤t.length:=by
 unfold Lib.cut;split<;>simp;omega
theorem zhS (st:List UInt8)(o:OpV)(w:World)(hst:st.length≤30000000)(ha: -9223372036854775808≤o.arg∧o.arg≤9223372036854775807)(hG:Glob w)(hp:Pow w):
 Calls prog 235 #[.agg #[],.string ⟨st.toArray⟩,opAg o] w fun e w'=>e=.returned (.tuple #[.string ⟨(quDo st o).1.toArray⟩,vAg (quDo st o).2.1 (quDo st o).2.2])∧Below w.heap.size w w':=by
 obtain⟨R,hR⟩:∃R,Hid (quDo st o=R):=⟨_,rfl⟩;rw[hR.out];unfold opAg vAg at*;obtain⟨W3,hW3,hbl,hOB,hVB⟩:∃W3,((w.alloc (.cells #[] 62)).alloc (.cells #[.int .i64 o.id,.int .i64 o.cl,.string ⟨o.name.toArray⟩,.string ⟨o.key.toArray⟩,.int .i64 o.arg,.int .i64 o.exp,.int .i64 o.call,.int .i64 o.ret,.int .i64 o.vk,.int .i64 o.vn] 74)).alloc (.cells #[.int .i64 0,.int .i64 0] 72)=W3∧Below w.heap.size w W3∧W3.heap[w.heap.size+1]?=some (.cells #[.int .i64 o.id,.int .i64 o.cl,.string ⟨o.name.toArray⟩,.string ⟨o.key.toArray⟩,.int .i64 o.arg,.int .i64 o.exp,.int .i64 o.call,.int .i64 o.ret,.int .i64 o.vk,.int .i64 o.vn] 74 (0,0))∧W3.heap[w.heap.size+1+1]?=some (.cells #[.int .i64 0,.int .i64 0] 72 (0,0)):=by
  refine⟨_,rfl,((zA _ _).alloc (by simp) _).alloc (by simp;omega) _,?_,ziF _ _ _ (by simp)⟩;rw[zD1 _ _ _ (by simp)];exact ziF _ _ _ (by simp)
 have a2:W3.cell? ⟨w.heap.size+1,2,none⟩=some (.string ⟨o.name.toArray⟩):=zBk hOB 2;have a4:W3.cell? ⟨w.heap.size+1,4,none⟩=some (.int .i64 o.arg):=zBk hOB 4;have hsz:=hbl.size;have e0:W3.cell? ⟨w.heap.size+1+1,0,none⟩=some (.int .i64 0):=zBk hVB 0;have e1:W3.cell? ⟨w.heap.size+1+1,1,none⟩=some (.int .i64 0):=zBk hVB 1;have z0:=zBn hVB 0;have z1:=zBn hVB 1;have hfin:∀(W W':World) (x y v0 v1:Value),Below w.heap.size w W→W.heap[w.heap.size+1+1]?=some (.cells #[x,y] 72 (0,0))→W'=(W.setCell ⟨w.heap.size+1+1,0,none⟩ v0).setCell ⟨w.heap.size+1+1,1,none⟩ v1→Below w.heap.size w W'∧W'.heap[w.heap.size+1+1]?=some (.cells #[v0,v1] 72 (0,0)):=by
  intro W W' x y v0 v1 h1 h2 h3;subst h3;exact⟨(h1.setCell (p:=⟨w.heap.size+1+1,0,none⟩) (by show w.heap.size≤w.heap.size+1+1;omega) _).setCell (p:=⟨w.heap.size+1+1,1,none⟩) (by show w.heap.size≤w.heap.size+1+1;omega) _,vset h2 _ _⟩
 have HF:=Hid.mk' hfin;have H0:=Hid.mk' (And.intro hVB hbl);have hp3:=hp.stays hbl;have hng:=hG.errs.lt;have hG3:Glob W3:=hG.below (hbl.mono hng);clear hfin;go_enter func235,ntmps235;cases h1:(o.name==[101,110,113])with
 |true=>
   have hd:=z88 o.arg ha.1 ha.2 W3 hp3;have hil:=Lib.itoa_length_le o.arg ha.1 ha.2;cases h2:(st==[])with
   |true=>
     have hE:Hid (R=(Lib.itoa o.arg,0,0)):=(by rw[←hR.out];unfold quDo;rw[if_pos (by simpa using h1),if_pos (by simpa using h2)];exact rfl);go_wp2_with fail;refine hd.mono ?_;rintro e w2 ⟨rfl,hb2⟩;have hB2:=(hb2.block _ (zBq hVB)).trans hVB;have hbl2:=hbl.trans (hb2.mono hsz);have c0:w2.cell? ⟨w.heap.size+1+1,0,none⟩=some (.int .i64 0):=zBk hB2 0;have c1:w2.cell? ⟨w.heap.size+1+1,1,none⟩=some (.int .i64 0):=zBk hB2 1;have f0:=zBn hB2 0;have f1:=zBn hB2 1;have HX:=Hid.mk' (And.intro hB2 hbl2);clear hb2 hB2 hbl2;go_wp2;obtain⟨g1,g2⟩:=HF.out _ _ _ _ _ _ HX.out.2 HX.out.1 rfl;refine bodyPost_ret (zUU _ _ (w.heap.size+1+1) (.string ⟨(Lib.itoa o.arg).toArray⟩) _ _ (by simp) (by simp) g2) rfl ⟨by first|(rw[hE.out];done)|(rw[hE.out];rfl),g1⟩
   |false=>
     have hE:Hid (R=(st++[44]++Lib.itoa o.arg,0,0)):=(by rw[←hR.out];unfold quDo;rw[if_pos (by simpa using h1),if_neg (by simpa using h2)];exact rfl);go_wp2_with fail;refine hd.mono ?_;rintro e w2 ⟨rfl,hb2⟩;have hB2:=(hb2.block _ (zBq hVB)).trans hVB;have hbl2:=hbl.trans (hb2.mono hsz);have c0:w2.cell? ⟨w.heap.size+1+1,0,none⟩=some (.int .i64 0):=zBk hB2 0;have c1:w2.cell? ⟨w.heap.size+1+1,1,none⟩=some (.int .i64 0):=zBk hB2 1;have f0:=zBn hB2 0;have f1:=zBn hB2 1;have HX:=Hid.mk' (And.intro hB2 hbl2);clear hb2 hB2 hbl2;go_wp2;obtain⟨g1,g2⟩:=HF.out _ _ _ _ _ _ HX.out.2 HX.out.1 rfl;refine bodyPost_ret (zUU _ _ (w.heap.size+1+1) (.string (⟨st.toArray⟩++⟨#[44]⟩++⟨(Lib.itoa o.arg).toArray⟩)) _ _ (by simp) (by simp) g2) rfl ⟨by rw[hE.out,ba3],g1⟩
 |false=>
   cases h2:(o.name==[100,101,113])with
   |false=>
     have hE:Hid (R=(st,0,0)):=(by rw[←hR.out];unfold quDo;rw[if_neg (by simpa using h1),if_neg (by simpa using h2)];exact rfl);clear hR;go_wp2;obtain⟨g1,g2⟩:=HF.out _ _ _ _ _ _ H0.out.2 H0.out.1 rfl;refine bodyPost_ret (zUU _ _ (w.heap.size+1+1) (.string ⟨st.toArray⟩) _ _ (by simp) (by simp) g2) rfl ⟨by first|(rw[hE.out];done)|(rw[hE.out];rfl),g1⟩
   |true=>
     obtain⟨mx,hmx⟩:=hG3.mx;have hC:=Tryz.strings_Cut ⟨st.toArray⟩ ⟨#[44]⟩ mx W3 (by show st.toArray.size<_;simp;omega) hmx;have hlen:=zQ4 st;go_wp2_with fail;refine hC.mono ?_;rintro e w2 ⟨rfl,n,hw2⟩;have hb2:Below W3.heap.size W3 w2:=(by rw[hw2];exact below_drewN (zD) _);clear hw2 hC;have hPD:=zJf (Lib.cut st [44]).1 w2 (by omega) (hG3.errs.below (hb2.mono hG3.errs.lt)) (hp3.stays hb2);have hE0:Hid (R=if(decP (Lib.cut st [44]).1).isSome then((Lib.cut st [44]).2.1,1,(decP (Lib.cut st [44]).1).getD 0)else(st,0,0)):=(by rw[←hR.out];unfold quDo;rw[if_neg (by simpa using h1),if_pos (by simpa using h2)];exact rfl);generalize (Lib.cut st [44]).1=fst at*;generalize (Lib.cut st [44]).2.1=rst at*;generalize (Lib.cut st [44]).2.2=third at*;go_wp2_with fail;refine hPD.mono ?_;rintro e w4 ⟨rfl,hb4⟩;have hb24:Below W3.heap.size W3 w4:=hb2.trans (hb4.mono hb2.size);clear hPD hb4;cases h3:(decP fst).isSome with
     |true=>
       have hE:Hid (R=(rst,1,(decP fst).getD 0)):=(by rw[hE0.out,if_pos h3];exact rfl);clear hE0 h3 hR;generalize (decP fst).getD 0=nv at*;have hN:=zl7 nv w4;unfold vAg at hN;go_wp2_with fail;refine hN.mono ?_;rintro e w5 ⟨rfl,hb5⟩;have hb2:Below W3.heap.size W3 w5:=hb24.trans (hb5.mono hb24.size);have hB2:=(hb2.block _ (zBq hVB)).trans hVB;have hbl2:=hbl.trans (hb2.mono hsz);have c0:w5.cell? ⟨w.heap.size+1+1,0,none⟩=some (.int .i64 0):=zBk hB2 0;have c1:w5.cell? ⟨w.heap.size+1+1,1,none⟩=some (.int .i64 0):=zBk hB2 1;have f0:=zBn hB2 0;have f1:=zBn hB2 1;have HX:=Hid.mk' (And.intro hB2 hbl2);clear hb2 hB2 hbl2 hb24 hb5 hN;go_wp2;obtain⟨g1,g2⟩:=HF.out _ _ _ _ _ _ HX.out.2 HX.out.1 rfl;refine bodyPost_ret (zUU _ _ (w.heap.size+1+1) (.string ⟨rst.toArray⟩) _ _ (by simp) (by simp) g2) rfl ⟨by first|(rw[hE.out];done)|(rw[hE.out];rfl),g1⟩
     |false=>
       have hE:Hid (R=(st,0,0)):=(by rw[hE0.out,if_neg (by simp[h3])];exact rfl);have hB2:=(hb24.block _ (zBq hVB)).trans hVB;have hbl2:=hbl.trans (hb24.mono hsz);have c0:w4.cell? ⟨w.heap.size+1+1,0,none⟩=some (.int .i64 0):=zBk hB2 0;have c1:w4.cell? ⟨w.heap.size+1+1,1,none⟩=some (.int .i64 0):=zBk hB2 1;have f0:=zBn hB2 0;have f1:=zBn hB2 1;have HX:=Hid.mk' (And.intro hB2 hbl2);clear hE0 hR hB2 hbl2 hb24;go_wp2;obtain⟨g1,g2⟩:=HF.out _ _ _ _ _ _ HX.out.2 HX.out.1 rfl;refine bodyPost_ret (zUU _ _ (w.heap.size+1+1) (.string ⟨st.toArray⟩) _ _ (by simp) (by simp) g2) rfl ⟨by first|(rw[hE.out];done)|(rw[hE.out];rfl),g1⟩
end Go.Proofs.YtbbkihekjdffpaaGreatDoor.srch
