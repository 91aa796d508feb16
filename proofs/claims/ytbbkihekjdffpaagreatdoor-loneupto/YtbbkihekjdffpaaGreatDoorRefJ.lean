/- Several texts in one. -/
import Derived.Test.YtbbkihekjdffpaaGreatDoorRefG
import Derived.Test.YtbbkihekjdffpaaGreatDoorRows
import Derived.Test.YtbbkihekjdffpaaGreatDoorSrchLL
import Derived.Test.YtbbkihekjdffpaaGreatDoorVarsX
import Derived.LaidHandle
import Derived.Lay
import Derived.Lib.LaidIn
import Derived.Lib.LaidU8T
import Derived.MakeChecks
set_option maxHeartbeats 9000000
set_option maxRecDepth 100000
namespace Go.Proofs.YtbbkihekjdffpaaGreatDoor
open Go.RowKit

def rMem (name:ByteArray) (kind:Nat) (s:ByteArray) (n:Int):Value:=.agg #[.string name,.int .u8 (kind:Int),.string s,.int .i64 n]
def zLi (mark:Nat) (s:ByteArray):Nat×ByteArray×Int×Bool:=
 if mark=34 then (115,s,0,true) else if mark≠119 then (0,⟨#[]⟩,0,false)
 else if (s.toList == [116,114,117,101])=true then (116,⟨#[]⟩,0,true)
 else if (s.toList == [102,97,108,115,101])=true then (102,⟨#[]⟩,0,true)
 else if (s.toList == [110,117,108,108])=true then (110,⟨#[]⟩,0,true)
 else (105,⟨#[]⟩,(zyu (lets s)).1,(zyu (lets s)).2)
def zAj (p:Nat×ByteArray×Int×Bool):Value:=.tuple #[rMem ⟨#[]⟩ p.1 p.2.1 p.2.2.1,.bool p.2.2.2]

theorem z4Z (mark:Nat) (s:ByteArray) (w:World) (hs:s.size≤9000000) (_hm:mark < 256):
 Calls Tryz.prog 101 #[.agg #[.int .u8 mark,.string s]] w fun e w'=>Below w.heap.size w w'∧e=.returned (zAj (zLi mark s)):=by
 go_enter Tryz.func101,Tryz.ntmps101
 by_cases h34:mark=34
 · have h34':((mark:Int) == 34)=true:=by simp;omega
   have hE:Hid (zLi mark s=(115,s,0,true)):=by unfold zLi;rw [if_pos h34];exact rfl
   go_wp2
   refine bodyPost_ret (v:=zAj (115,s,0,true)) (by simp [results,Tryz.results101,go_sem,zAj,rMem]) rfl ⟨?_,by rw [hE.out]⟩
   (repeat (first | exact Below.refl _ _ | refine Below.alloc ?_ (by simp <;> omega) _ | refine Below.setCell ?_ (by simp <;> omega) _))
 · have h34':((mark:Int) == 34)=false:=by simp;omega
   by_cases hw:mark=119
   · have hw':((mark:Int) != 119)=false:=by simp;omega
     cases q1:(s.toList == [116,114,117,101]) with
     | true=>
       have hE:Hid (zLi mark s=(116,⟨#[]⟩,0,true)):=by unfold zLi;rw [if_neg h34,if_neg (by omega),if_pos q1];exact rfl
       go_wp2
       refine bodyPost_ret (v:=zAj (116,⟨#[]⟩,0,true)) (by simp [results,Tryz.results101,go_sem,zAj,rMem]) rfl ⟨?_,by rw [hE.out]⟩
       (repeat (first | exact Below.refl _ _ | refine Below.alloc ?_ (by simp <;> omega) _ | refine Below.setCell ?_ (by simp <;> omega) _))
     | false=>
       cases q2:(s.toList == [102,97,108,115,101]) with
       | true=>
         have hE:Hid (zLi mark s=(102,⟨#[]⟩,0,true)):=by unfold zLi;rw [if_neg h34,if_neg (by omega),if_neg (by simp only [q1];decide),if_pos q2];exact rfl
         go_wp2
         refine bodyPost_ret (v:=zAj (102,⟨#[]⟩,0,true)) (by simp [results,Tryz.results101,go_sem,zAj,rMem]) rfl ⟨?_,by rw [hE.out]⟩
         (repeat (first | exact Below.refl _ _ | refine Below.alloc ?_ (by simp <;> omega) _ | refine Below.setCell ?_ (by simp <;> omega) _))
       | false=>
         cases q3:(s.toList == [110,117,108,108]) with
         | true=>
           have hE:Hid (zLi mark s=(110,⟨#[]⟩,0,true)):=by unfold zLi;rw [if_neg h34,if_neg (by omega),if_neg (by simp only [q1];decide),if_neg (by simp only [q2];decide),if_pos q3];exact rfl
           go_wp2
           refine bodyPost_ret (v:=zAj (110,⟨#[]⟩,0,true)) (by simp [results,Tryz.results101,go_sem,zAj,rMem]) rfl ⟨?_,by rw [hE.out]⟩
           (repeat (first | exact Below.refl _ _ | refine Below.alloc ?_ (by simp <;> omega) _ | refine Below.setCell ?_ (by simp <;> omega) _))
         | false=>
           have hE:Hid (zLi mark s=(105,⟨#[]⟩,(zyu (lets s)).1,(zyu (lets s)).2)):=by unfold zLi;rw [if_neg h34,if_neg (by omega),if_neg (by simp only [q1];decide),if_neg (by simp only [q2];decide),if_neg (by simp only [q3];decide)];exact rfl
           go_wp2_with fail
           refine (whole_any s _ hs).mono ?_
           rintro e w2 ⟨rfl,rfl⟩
           generalize zyu (lets s)=r at*
           obtain ⟨n,b⟩:=r
           go_wp2
           refine bodyPost_ret (v:=zAj (105,⟨#[]⟩,n,b)) (by simp [results,Tryz.results101,go_sem,zAj,rMem]) rfl ⟨?_,by rw [hE.out]⟩
           (repeat (first | exact Below.refl _ _ | refine Below.alloc ?_ (by simp <;> omega) _ | refine Below.setCell ?_ (by simp <;> omega) _))
   · have hw':((mark:Int) != 119)=true:=by simp;omega
     have hE:Hid (zLi mark s=(0,⟨#[]⟩,0,false)):=by unfold zLi;rw [if_neg h34,if_pos hw];exact rfl
     go_wp2
     refine bodyPost_ret (v:=zAj (0,⟨#[]⟩,0,false)) (by simp [results,Tryz.results101,go_sem,zAj,rMem]) rfl ⟨?_,by rw [hE.out]⟩
     (repeat (first | exact Below.refl _ _ | refine Below.alloc ?_ (by simp <;> omega) _ | refine Below.setCell ?_ (by simp <;> omega) _))

def fitP (name:List UInt8) (kind:Nat) (call:Bool):Bool:=
 if (name == [99,97,108,108])=true then call&&((kind:Int) == 105) else
 if (name == [98,121])=true then call&&((kind:Int) == 105) else
 if (name == [97,114,103])=true then call&&((kind:Int) == 105) else
 if (name == [101,120,112])=true then call&&((kind:Int) == 105) else
 if (name == [111,112])=true then call&&((kind:Int) == 115) else
 if (name == [107,101,121])=true then call&&((kind:Int) == 115) else
 if (name == [114,101,116])=true then !call&&((kind:Int) == 105) else
 if (name == [118,97,108])=true then !call&&((kind:Int) != 115) else
 false

theorem zNE (name:ByteArray) (kind:Nat) (s:ByteArray) (n:Int) (call:Bool) (w:World) (_hk:kind < 256):
 Calls Tryz.prog 134 #[rMem name kind s n,.bool call] w fun e w'=>Below w.heap.size w w'∧e=.returned (.bool (fitP name.toList kind call)):=by
 unfold rMem
 go_enter Tryz.func134,Tryz.ntmps134
 cases q1:(name.toList == [99,97,108,108]) with
 | true=>
   have hE:Hid (fitP name.toList kind call=(call&&((kind:Int) == 105))):=by unfold fitP;rw [if_pos q1];exact rfl
   cases call
   all_goals
    go_wp2
    go_ret
    refine ⟨by (repeat (first | exact Below.refl _ _ | refine Below.alloc ?_ (by simp <;> omega) _ | refine Below.setCell ?_ (by simp <;> omega) _)),?_⟩
    rw [hE.out];rfl
 | false=>
   cases q2:(name.toList == [98,121]) with
   | true=>
     have hE:Hid (fitP name.toList kind call=(call&&((kind:Int) == 105))):=by unfold fitP;rw [if_neg (by simp only [q1];decide),if_pos q2];exact rfl
     cases call
     all_goals
      go_wp2
      go_ret
      refine ⟨by (repeat (first | exact Below.refl _ _ | refine Below.alloc ?_ (by simp <;> omega) _ | refine Below.setCell ?_ (by simp <;> omega) _)),?_⟩
      rw [hE.out];rfl
   | false=>
     cases q3:(name.toList == [97,114,103]) with
     | true=>
       have hE:Hid (fitP name.toList kind call=(call&&((kind:Int) == 105))):=by unfold fitP;rw [if_neg (by simp only [q1];decide),if_neg (by simp only [q2];decide),if_pos q3];exact rfl
       cases call
       all_goals
        go_wp2
        go_ret
        refine ⟨by (repeat (first | exact Below.refl _ _ | refine Below.alloc ?_ (by simp <;> omega) _ | refine Below.setCell ?_ (by simp <;> omega) _)),?_⟩
        rw [hE.out];rfl
     | false=>
       cases q4:(name.toList == [101,120,112]) with
       | true=>
         have hE:Hid (fitP name.toList kind call=(call&&((kind:Int) == 105))):=by unfold fitP;rw [if_neg (by simp only [q1];decide),if_neg (by simp only [q2];decide),if_neg (by simp only [q3];decide),if_pos q4];exact rfl
         cases call
         all_goals
          go_wp2
          go_ret
          refine ⟨by (repeat (first | exact Below.refl _ _ | refine Below.alloc ?_ (by simp <;> omega) _ | refine Below.setCell ?_ (by simp <;> omega) _)),?_⟩
          rw [hE.out];rfl
       | false=>
         cases q5:(name.toList == [111,112]) with
         | true=>
           have hE:Hid (fitP name.toList kind call=(call&&((kind:Int) == 115))):=by unfold fitP;rw [if_neg (by simp only [q1];decide),if_neg (by simp only [q2];decide),if_neg (by simp only [q3];decide),if_neg (by simp only [q4];decide),if_pos q5];exact rfl
           cases call
           all_goals
            go_wp2
            go_ret
            refine ⟨by (repeat (first | exact Below.refl _ _ | refine Below.alloc ?_ (by simp <;> omega) _ | refine Below.setCell ?_ (by simp <;> omega) _)),?_⟩
            rw [hE.out];rfl
         | false=>
           cases q6:(name.toList == [107,101,121]) with
           | true=>
             have hE:Hid (fitP name.toList kind call=(call&&((kind:Int) == 115))):=by unfold fitP;rw [if_neg (by simp only [q1];decide),if_neg (by simp only [q2];decide),if_neg (by simp only [q3];decide),if_neg (by simp only [q4];decide),if_neg (by simp only [q5];decide),if_pos q6];exact rfl
             cases call
             all_goals
              go_wp2
              go_ret
              refine ⟨by (repeat (first | exact Below.refl _ _ | refine Below.alloc ?_ (by simp <;> omega) _ | refine Below.setCell ?_ (by simp <;> omega) _)),?_⟩
              rw [hE.out];rfl
           | false=>
             cases q7:(name.toList == [114,101,116]) with
             | true=>
               have hE:Hid (fitP name.toList kind call=(!call&&((kind:Int) == 105))):=by unfold fitP;rw [if_neg (by simp only [q1];decide),if_neg (by simp only [q2];decide),if_neg (by simp only [q3];decide),if_neg (by simp only [q4];decide),if_neg (by simp only [q5];decide),if_neg (by simp only [q6];decide),if_pos q7];exact rfl
               cases call
               all_goals
                go_wp2
                go_ret
                refine ⟨by (repeat (first | exact Below.refl _ _ | refine Below.alloc ?_ (by simp <;> omega) _ | refine Below.setCell ?_ (by simp <;> omega) _)),?_⟩
                rw [hE.out];rfl
             | false=>
               cases q8:(name.toList == [118,97,108]) with
               | true=>
                 have hE:Hid (fitP name.toList kind call=(!call&&((kind:Int) != 115))):=by unfold fitP;rw [if_neg (by simp only [q1];decide),if_neg (by simp only [q2];decide),if_neg (by simp only [q3];decide),if_neg (by simp only [q4];decide),if_neg (by simp only [q5];decide),if_neg (by simp only [q6];decide),if_neg (by simp only [q7];decide),if_pos q8];exact rfl
                 cases call
                 all_goals
                  go_wp2
                  go_ret
                  refine ⟨by (repeat (first | exact Below.refl _ _ | refine Below.alloc ?_ (by simp <;> omega) _ | refine Below.setCell ?_ (by simp <;> omega) _)),?_⟩
                  rw [hE.out];rfl
               | false=>
                 have hE:Hid (fitP name.toList kind call=false):=by unfold fitP;rw [if_neg (by simp only [q1];decide),if_neg (by simp only [q2];decide),if_neg (by simp only [q3];decide),if_neg (by simp only [q4];decide),if_neg (by simp only [q5];decide),if_neg (by simp only [q6];decide),if_neg (by simp only [q7];decide),if_neg (by simp only [q8];decide)];exact rfl
                 go_wp2
                 go_ret
                 refine ⟨by (repeat (first | exact Below.refl _ _ | refine Below.alloc ?_ (by simp <;> omega) _ | refine Below.setCell ?_ (by simp <;> omega) _)),?_⟩
                 rw [hE.out];rfl

def zyw (l:List UInt8):List UInt8×List UInt8×Bool:=
 if (l == [114,101,103,105,115,116,101,114,32,114,101,97,100])=true then ([],[105],true) else
 if (l == [114,101,103,105,115,116,101,114,32,119,114,105,116,101])=true then ([97],[110],true) else
 if (l == [113,117,101,117,101,32,101,110,113])=true then ([97],[110],true) else
 if (l == [114,101,103,105,115,116,101,114,32,99,97,115])=true then ([97,101],[98],true) else
 if (l == [107,118,32,103,101,116])=true then ([107],[105,110],true) else
 if (l == [107,118,32,112,117,116])=true then ([107,97],[110],true) else
 if (l == [107,118,32,100,101,108])=true then ([107],[98],true) else
 if (l == [115,101,116,32,97,100,100])=true then ([107],[98],true) else
 if (l == [115,101,116,32,114,101,109])=true then ([107],[98],true) else
 if (l == [115,101,116,32,104,97,115])=true then ([107],[98],true) else
 if (l == [113,117,101,117,101,32,100,101,113])=true then ([],[105,110],true) else
 if (l == [108,111,99,107,32,97,99,113])=true then ([],[98],true) else
 if (l == [108,111,99,107,32,114,101,108])=true then ([],[98],true) else
 ([],[],false)
def zu1 (p:List UInt8×List UInt8×Bool):Value:=.tuple #[.string ⟨p.1.toArray⟩,.string ⟨p.2.1.toArray⟩,.bool p.2.2]

theorem zf4 (m n:ByteArray) (w:World) (hm:m.size≤9000000) (hn:n.size≤9000000):
 Calls Tryz.prog 103 #[.string m,.string n] w fun e w'=>w'=w∧e=.returned (zu1 (zyw (m++(⟨#[32]⟩:ByteArray)++n).toList)):=by
 go_enter Tryz.func103,Tryz.ntmps103
 cases q1:((m++(⟨#[32]⟩:ByteArray)++n).toList == [114,101,103,105,115,116,101,114,32,114,101,97,100]) with
 | true=>
   have hE:Hid (zyw (m++(⟨#[32]⟩:ByteArray)++n).toList=([],[105],true)):=by unfold zyw;rw [if_pos q1];exact rfl
   go_wp2
   refine bodyPost_ret (v:=zu1 ([],[105],true)) (by simp [results,Tryz.results103,go_sem,zu1]) rfl ⟨rfl,by rw [hE.out]⟩
 | false=>
   cases q2:((m++(⟨#[32]⟩:ByteArray)++n).toList == [114,101,103,105,115,116,101,114,32,119,114,105,116,101]) with
   | true=>
     have hE:Hid (zyw (m++(⟨#[32]⟩:ByteArray)++n).toList=([97],[110],true)):=by unfold zyw;rw [if_neg (by simp only [q1];decide),if_pos q2];exact rfl
     go_wp2
     refine bodyPost_ret (v:=zu1 ([97],[110],true)) (by simp [results,Tryz.results103,go_sem,zu1]) rfl ⟨rfl,by rw [hE.out]⟩
   | false=>
     cases q3:((m++(⟨#[32]⟩:ByteArray)++n).toList == [113,117,101,117,101,32,101,110,113]) with
     | true=>
       have hE:Hid (zyw (m++(⟨#[32]⟩:ByteArray)++n).toList=([97],[110],true)):=by unfold zyw;rw [if_neg (by simp only [q1];decide),if_neg (by simp only [q2];decide),if_pos q3];exact rfl
       go_wp2
       refine bodyPost_ret (v:=zu1 ([97],[110],true)) (by simp [results,Tryz.results103,go_sem,zu1]) rfl ⟨rfl,by rw [hE.out]⟩
     | false=>
       cases q4:((m++(⟨#[32]⟩:ByteArray)++n).toList == [114,101,103,105,115,116,101,114,32,99,97,115]) with
       | true=>
         have hE:Hid (zyw (m++(⟨#[32]⟩:ByteArray)++n).toList=([97,101],[98],true)):=by unfold zyw;rw [if_neg (by simp only [q1];decide),if_neg (by simp only [q2];decide),if_neg (by simp only [q3];decide),if_pos q4];exact rfl
         go_wp2
         refine bodyPost_ret (v:=zu1 ([97,101],[98],true)) (by simp [results,Tryz.results103,go_sem,zu1]) rfl ⟨rfl,by rw [hE.out]⟩
       | false=>
         cases q5:((m++(⟨#[32]⟩:ByteArray)++n).toList == [107,118,32,103,101,116]) with
         | true=>
           have hE:Hid (zyw (m++(⟨#[32]⟩:ByteArray)++n).toList=([107],[105,110],true)):=by unfold zyw;rw [if_neg (by simp only [q1];decide),if_neg (by simp only [q2];decide),if_neg (by simp only [q3];decide),if_neg (by simp only [q4];decide),if_pos q5];exact rfl
           go_wp2
           refine bodyPost_ret (v:=zu1 ([107],[105,110],true)) (by simp [results,Tryz.results103,go_sem,zu1]) rfl ⟨rfl,by rw [hE.out]⟩
         | false=>
           cases q6:((m++(⟨#[32]⟩:ByteArray)++n).toList == [107,118,32,112,117,116]) with
           | true=>
             have hE:Hid (zyw (m++(⟨#[32]⟩:ByteArray)++n).toList=([107,97],[110],true)):=by unfold zyw;rw [if_neg (by simp only [q1];decide),if_neg (by simp only [q2];decide),if_neg (by simp only [q3];decide),if_neg (by simp only [q4];decide),if_neg (by simp only [q5];decide),if_pos q6];exact rfl
             go_wp2
             refine bodyPost_ret (v:=zu1 ([107,97],[110],true)) (by simp [results,Tryz.results103,go_sem,zu1]) rfl ⟨rfl,by rw [hE.out]⟩
           | false=>
             cases q7:((m++(⟨#[32]⟩:ByteArray)++n).toList == [107,118,32,100,101,108]) with
             | true=>
               have hE:Hid (zyw (m++(⟨#[32]⟩:ByteArray)++n).toList=([107],[98],true)):=by unfold zyw;rw [if_neg (by simp only [q1];decide),if_neg (by simp only [q2];decide),if_neg (by simp only [q3];decide),if_neg (by simp only [q4];decide),if_neg (by simp only [q5];decide),if_neg (by simp only [q6];decide),if_pos q7];exact rfl
               go_wp2
               refine bodyPost_ret (v:=zu1 ([107],[98],true)) (by simp [results,Tryz.results103,go_sem,zu1]) rfl ⟨rfl,by rw [hE.out]⟩
             | false=>
               cases q8:((m++(⟨#[32]⟩:ByteArray)++n).toList == [115,101,116,32,97,100,100]) with
               | true=>
                 have hE:Hid (zyw (m++(⟨#[32]⟩:ByteArray)++n).toList=([107],[98],true)):=by unfold zyw;rw [if_neg (by simp only [q1];decide),if_neg (by simp only [q2];decide),if_neg (by simp only [q3];decide),if_neg (by simp only [q4];decide),if_neg (by simp only [q5];decide),if_neg (by simp only [q6];decide),if_neg (by simp only [q7];decide),if_pos q8];exact rfl
                 go_wp2
                 refine bodyPost_ret (v:=zu1 ([107],[98],true)) (by simp [results,Tryz.results103,go_sem,zu1]) rfl ⟨rfl,by rw [hE.out]⟩
               | false=>
                 cases q9:((m++(⟨#[32]⟩:ByteArray)++n).toList == [115,101,116,32,114,101,109]) with
                 | true=>
                   have hE:Hid (zyw (m++(⟨#[32]⟩:ByteArray)++n).toList=([107],[98],true)):=by unfold zyw;rw [if_neg (by simp only [q1];decide),if_neg (by simp only [q2];decide),if_neg (by simp only [q3];decide),if_neg (by simp only [q4];decide),if_neg (by simp only [q5];decide),if_neg (by simp only [q6];decide),if_neg (by simp only [q7];decide),if_neg (by simp only [q8];decide),if_pos q9];exact rfl
                   go_wp2
                   refine bodyPost_ret (v:=zu1 ([107],[98],true)) (by simp [results,Tryz.results103,go_sem,zu1]) rfl ⟨rfl,by rw [hE.out]⟩
                 | false=>
                   cases q10:((m++(⟨#[32]⟩:ByteArray)++n).toList == [115,101,116,32,104,97,115]) with
                   | true=>
                     have hE:Hid (zyw (m++(⟨#[32]⟩:ByteArray)++n).toList=([107],[98],true)):=by unfold zyw;rw [if_neg (by simp only [q1];decide),if_neg (by simp only [q2];decide),if_neg (by simp only [q3];decide),if_neg (by simp only [q4];decide),if_neg (by simp only [q5];decide),if_neg (by simp only [q6];decide),if_neg (by simp only [q7];decide),if_neg (by simp only [q8];decide),if_neg (by simp only [q9];decide),if_pos q10];exact rfl
                     go_wp2
                     refine bodyPost_ret (v:=zu1 ([107],[98],true)) (by simp [results,Tryz.results103,go_sem,zu1]) rfl ⟨rfl,by rw [hE.out]⟩
                   | false=>
                     cases q11:((m++(⟨#[32]⟩:ByteArray)++n).toList == [113,117,101,117,101,32,100,101,113]) with
                     | true=>
                       have hE:Hid (zyw (m++(⟨#[32]⟩:ByteArray)++n).toList=([],[105,110],true)):=by unfold zyw;rw [if_neg (by simp only [q1];decide),if_neg (by simp only [q2];decide),if_neg (by simp only [q3];decide),if_neg (by simp only [q4];decide),if_neg (by simp only [q5];decide),if_neg (by simp only [q6];decide),if_neg (by simp only [q7];decide),if_neg (by simp only [q8];decide),if_neg (by simp only [q9];decide),if_neg (by simp only [q10];decide),if_pos q11];exact rfl
                       go_wp2
                       refine bodyPost_ret (v:=zu1 ([],[105,110],true)) (by simp [results,Tryz.results103,go_sem,zu1]) rfl ⟨rfl,by rw [hE.out]⟩
                     | false=>
                       cases q12:((m++(⟨#[32]⟩:ByteArray)++n).toList == [108,111,99,107,32,97,99,113]) with
                       | true=>
                         have hE:Hid (zyw (m++(⟨#[32]⟩:ByteArray)++n).toList=([],[98],true)):=by unfold zyw;rw [if_neg (by simp only [q1];decide),if_neg (by simp only [q2];decide),if_neg (by simp only [q3];decide),if_neg (by simp only [q4];decide),if_neg (by simp only [q5];decide),if_neg (by simp only [q6];decide),if_neg (by simp only [q7];decide),if_neg (by simp only [q8];decide),if_neg (by simp only [q9];decide),if_neg (by simp only [q10];decide),if_neg (by simp only [q11];decide),if_pos q12];exact rfl
                         go_wp2
                         refine bodyPost_ret (v:=zu1 ([],[98],true)) (by simp [results,Tryz.results103,go_sem,zu1]) rfl ⟨rfl,by rw [hE.out]⟩
                       | false=>
                         cases q13:((m++(⟨#[32]⟩:ByteArray)++n).toList == [108,111,99,107,32,114,101,108]) with
                         | true=>
                           have hE:Hid (zyw (m++(⟨#[32]⟩:ByteArray)++n).toList=([],[98],true)):=by unfold zyw;rw [if_neg (by simp only [q1];decide),if_neg (by simp only [q2];decide),if_neg (by simp only [q3];decide),if_neg (by simp only [q4];decide),if_neg (by simp only [q5];decide),if_neg (by simp only [q6];decide),if_neg (by simp only [q7];decide),if_neg (by simp only [q8];decide),if_neg (by simp only [q9];decide),if_neg (by simp only [q10];decide),if_neg (by simp only [q11];decide),if_neg (by simp only [q12];decide),if_pos q13];exact rfl
                           go_wp2
                           refine bodyPost_ret (v:=zu1 ([],[98],true)) (by simp [results,Tryz.results103,go_sem,zu1]) rfl ⟨rfl,by rw [hE.out]⟩
                         | false=>
                           have hE:Hid (zyw (m++(⟨#[32]⟩:ByteArray)++n).toList=([],[],false)):=by unfold zyw;rw [if_neg (by simp only [q1];decide),if_neg (by simp only [q2];decide),if_neg (by simp only [q3];decide),if_neg (by simp only [q4];decide),if_neg (by simp only [q5];decide),if_neg (by simp only [q6];decide),if_neg (by simp only [q7];decide),if_neg (by simp only [q8];decide),if_neg (by simp only [q9];decide),if_neg (by simp only [q10];decide),if_neg (by simp only [q11];decide),if_neg (by simp only [q12];decide),if_neg (by simp only [q13];decide)];exact rfl
                           go_wp2
                           refine bodyPost_ret (v:=zu1 ([],[],false)) (by simp [results,Tryz.results103,go_sem,zu1]) rfl ⟨rfl,by rw [hE.out]⟩

def modTab:List (List UInt8):=[sReg,sKv,zsK,sSet,zyy]
def z9C:Array Value:=(modTab.map fun l=>Value.string ⟨l.toArray⟩).toArray
def Mods (w:World):Prop:=w.var? Tryz.prog "linear/linearref.Models"=some z9C
theorem Mods.below {w w':World} (h:Mods w) (k:Below 10 w w'):Mods w':=var?_below k (show Tryz.prog.globalNamed "linear/linearref.Models"=some 1 by kernel_rfl) (by omega) h
theorem Mods.blk {w:World} (h:Mods w):∃ t f,w.heap[1]?=some (.cells z9C t f):=by
 unfold Mods World.var? at h
 rw [show Tryz.prog.globalNamed "linear/linearref.Models"=some 1 by kernel_rfl] at h
 simp only [Option.bind_some] at h
 split at h
 · rename_i cs t f hb;exact ⟨t,f,by rw [hb];simp at h;rw [h]⟩
 · cases h
def z3t (s:List UInt8):List (List UInt8)→Bool
 | []=>false
 | x::t=>(x == s)||z3t s t

theorem zJJ (s:ByteArray) (w:World) (ho:Mods w) (_hng:10≤w.heap.size):
 Calls Tryz.prog 28 #[.string s] w fun e w'=>e=.returned (.bool (z3t s.toList modTab))∧w'=w:=by
 obtain ⟨tt,ff,hb⟩:=ho.blk
 go_enter Tryz.func28,Tryz.ntmps28
 go_wp2
 go_loop [3] (fun i=>∃ j:Nat,j≤modTab.length∧i=.int .i64 j∧z3t s.toList (modTab.drop j)=z3t s.toList modTab) (fun i=>modTab.length - (intOf i).toNat)
 case atStart=>exact ⟨0,Nat.zero_le _,rfl,rfl⟩
 case round=>
  obtain ⟨j,hj,rfl,hR⟩:=hrel
  have HR:Hid (z3t s.toList (modTab.drop j)=z3t s.toList modTab):=hR
  clear hR
  have hr:=zBk hb j
  clear hb
  by_cases hlt:j < modTab.length
  · have hD:Hid (modTab.drop j=modTab[j]::modTab.drop (j+1)):=zKU _ j hlt
    have hlt':(j:Int) < 5:=by simp [modTab] at hlt;omega
    rw [show z9C[j]?=some (.string ⟨(modTab[j]).toArray⟩) by simp [z9C,hlt]] at hr
    generalize modTab[j]=x at*
    cases hq:(x == s.toList) with
    | true=>
      have hE:Hid (z3t s.toList modTab=true):=by rw [←HR.out,hD.out];simp [z3t,hq,Hid]
      clear HR hD
      go_wp2
      go_ret
      exact ⟨by rw [hE.out];rfl,rfl⟩
    | false=>
      have hE:Hid (z3t s.toList (modTab.drop (j+1))=z3t s.toList modTab):=by rw [←HR.out,hD.out];simp [z3t,hq,Hid]
      clear HR hD
      go_wp2
      go_round
      case rel=>exact ⟨j+1,by omega,by go_num,hE.out⟩
      case measure=>simp [intOf];omega
  · have hjl:j=modTab.length:=by omega
    have hE:Hid (z3t s.toList modTab=false):=by rw [←HR.out,hjl,List.drop_length];exact rfl
    have hlt':¬ (j:Int) < 5:=by simp [modTab] at hlt;omega
    clear HR hjl
    go_wp2
    go_ret
    exact ⟨by rw [hE.out];rfl,rfl⟩
end Go.Proofs.YtbbkihekjdffpaaGreatDoor
namespace Go.Proofs.YtbbkihekjdffpaaGreatDoor
open Go.RowKit Go.Lib

theorem gOps:Tryz.prog.globalNamed "linear/models.operations"=some 0:=by kernel_rfl
theorem yOps:(Tryz.prog.globals[0]?).map (·.type)=some 91:=by kernel_rfl
theorem cOp:Tryz.prog.cellsOf 90=4:=by kernel_rfl
theorem cOps:Tryz.prog.cellsOf 91=13*4:=by kernel_rfl
theorem cStr:Tryz.prog.cellsOf 9=1:=by kernel_rfl
def zma (o:zqk):DataW Unit:=.agg [.lit (.string o.1),.lit (.string o.2.1),.lit (.int .u8 o.2.2.1),.lit (.int .u8 o.2.2.2)]
theorem zmm:(Rows.laid_linear_models_operations:DataW Unit)=.agg (opTab.map zma):=by kernel_rfl
theorem zNJ {α:Type} (l:List zqk) (f:zqk→List α):(List.range l.length).flatMap (fun i=>(l[i]?.map f).getD [])=l.flatMap f:=by
 induction l with
 | nil=>rfl
 | cons a t ih=>
   rw [List.length_cons,List.range_succ_eq_map,List.flatMap_cons,List.flatMap_map]
   simp only [List.getElem?_cons_zero,Option.map_some,Option.getD_some,List.getElem?_cons_succ,List.flatMap_cons]
   rw [ih]
theorem z7x {W:World} (h:VarReads Tryz.prog W "linear/models.operations" Rows.laid_linear_models_operations):Ops W:=by
 obtain ⟨g,t,cs,fuel,p,hg,hty,hvar,hd⟩:=h
 obtain rfl:=Option.some.inj (gOps.symm.trans hg)
 obtain rfl:=Option.some.inj (yOps.symm.trans hty)
 rw [zmm] at hd
 have:=zse Tryz.underlying91 cOp cOps hd (fun i=>(opTab[i]?.map zq5).getD []) (by
  intro i d q m cs' hi hdi htr
  rw [List.getElem?_map] at hdi
  obtain ⟨o,ho,rfl⟩:=Option.map_eq_some_iff.1 hdi
  rw [ho]
  exact zXB Tryz.underlying90 cOp rfl rfl rfl rfl (by kernel_rfl) (by kernel_rfl) (by kernel_rfl) (by kernel_rfl) (by kernel_rfl) (by kernel_rfl) (by kernel_rfl) (by kernel_rfl) htr)
 rw [show (13:Nat)=opTab.length from rfl,zNJ] at this
 unfold Ops zeb
 rw [hvar,←this]

theorem gMods:Tryz.prog.globalNamed "linear/linearref.Models"=some 1:=by kernel_rfl
theorem yMods:(Tryz.prog.globals[1]?).map (·.type)=some 117:=by kernel_rfl
theorem zEq:Tryz.prog.cellsOf 117=5*1:=by kernel_rfl
theorem zN9:(Rows.laid_linear_linearref_Models:DataW Unit)=.agg (modTab.map fun l=>.lit (.string l)):=by kernel_rfl
theorem zh1 {W:World} (h:VarReads Tryz.prog W "linear/linearref.Models" Rows.laid_linear_linearref_Models):Mods W:=by
 obtain ⟨g,t,cs,fuel,p,hg,hty,hvar,hd⟩:=h
 obtain rfl:=Option.some.inj (gMods.symm.trans hg)
 obtain rfl:=Option.some.inj (yMods.symm.trans hty)
 rw [zN9] at hd
 have:=zse Tryz.underlying117 cStr zEq hd (fun i=>(modTab[i]?.map fun l=>[Value.string ⟨l.toArray⟩]).getD []) (by
  intro i d q m cs' hi hdi htr
  rw [List.getElem?_map] at hdi
  obtain ⟨o,ho,rfl⟩:=Option.map_eq_some_iff.1 hdi
  rw [ho]
  exact zMq Tryz.underlying9 htr)
 have e:(List.range 5).flatMap (fun i=>(modTab[i]?.map fun l=>[Value.string ⟨l.toArray⟩]).getD [])=modTab.map (fun l=>Value.string ⟨l.toArray⟩):=by kernel_rfl
 unfold Mods z9C
 rw [hvar,←e,←this]

theorem znJ {W:World} {n:String} {g:Nat} {s:List UInt8} (hn:Tryz.prog.globalNamed n=some g) (hy:(Tryz.prog.globals[g]?).map (·.type)=some 198)
 (h:VarReads Tryz.prog W n (.iface "*errors.errorString" (.ptr (.agg [.lit (.string s)])))):∃ tp p,W.var? Tryz.prog n=some #[.iface tp p]:=by
 obtain ⟨g',t,cs,fuel,p,hg,hty,hvar,hd⟩:=h
 obtain rfl:=Option.some.inj (hn.symm.trans hg)
 obtain rfl:=Option.some.inj (hy.symm.trans hty)
 obtain ⟨_,u,v,hcs,_,_⟩:=iface_of_trod Tryz.underlying198 hd
 exact ⟨u,v,by rw [hvar,Array.eq_one_of_toList hcs]⟩

theorem zqM:(((begin Tryz.prog (fun _ _=>0) default).world.heap[10 - 1]?).bind Obj.row?).isSome=true:=by kernel_rfl
theorem zzj {W:World} (h:W.ShapedOpen Tryz.prog):10≤W.heap.size:=by
 obtain ⟨⟨z,t⟩,hz⟩:=Option.isSome_iff_exists.1 zqM
 obtain ⟨cs,hh,_⟩:=h.1 (10 - 1) z t (of_decide_eq_true (by kernel_rfl)) hz
 have:=(Array.getElem?_eq_some_iff.1 hh).1
 omega
theorem zvp:Go.Pinned.utf8First=firstData:=by kernel_rfl
theorem zuH:(Rows.laid_unicode_utf8_acceptRanges:DataW Unit)=acceptData:=by kernel_rfl

theorem zTD {W:World} (hs:W.ShapedOpen Tryz.prog) (h1:VarReads Tryz.prog W "linear/models.operations" Rows.laid_linear_models_operations) (h2:VarReads Tryz.prog W "strconv.ErrSyntax" Rows.laid_strconv_ErrSyntax) (h3:VarReads Tryz.prog W "strconv.ErrRange" Rows.laid_strconv_ErrRange)
 (h4:VarReads Tryz.prog W "unicode/utf8.first" Rows.laid_unicode_utf8_first) (h5:VarReads Tryz.prog W "unicode/utf8.acceptRanges" Rows.laid_unicode_utf8_acceptRanges):Glob W:=by
 refine ⟨z7x h1,⟨znJ (g:=8) (by kernel_rfl) (by kernel_rfl) h2,znJ (g:=9) (by kernel_rfl) (by kernel_rfl) h3,zzj hs⟩,?_,?_⟩
 · rw [show Rows.laid_unicode_utf8_first=firstData from zvp] at h4
   rw [zuH] at h5
   exact utf8Tabs_of_readsT (U8Types.of196 Tryz.laysValid) ⟨by kernel_rfl,by kernel_rfl,by kernel_rfl,by kernel_rfl,by kernel_rfl,by kernel_rfl,by kernel_rfl⟩ h4 h5
 · exact Go.Proofs.cell_of_shapedOpen_int (zero:=#[.int .i64 0]) (t:=3) hs (of_decide_eq_true (by kernel_rfl)) (by kernel_rfl) rfl (by kernel_rfl) (by kernel_rfl) Tryz.underlying3
theorem z4q:(Rows.laid_internal_strconv_uint64pow10:DataW Unit)=tabData .u64 pow10Tab:=by kernel_rfl
theorem zRO {W:World} (h:VarReads Tryz.prog W "internal/strconv.uint64pow10" Rows.laid_internal_strconv_uint64pow10):srch.Pow W:=by
 obtain ⟨g,t,cs,fuel,p,hg,hty,hvar,hd⟩:=h
 obtain rfl:=Option.some.inj ((show Tryz.prog.globalNamed "internal/strconv.uint64pow10"=some 2 by kernel_rfl).symm.trans hg)
 obtain rfl:=Option.some.inj ((show (Tryz.prog.globals[2]?).map (·.type)=some 256 by kernel_rfl).symm.trans hty)
 rw [z4q] at hd
 show W.var? Tryz.prog "internal/strconv.uint64pow10"=_
 rw [hvar,←cells_of_tab Tryz.underlying256 Tryz.underlying152 (by kernel_rfl) (by kernel_rfl) hd]
end Go.Proofs.YtbbkihekjdffpaaGreatDoor
