/- One text. -/
import Derived.Test.YtbbkihekjdffpaaGreatDoorRefB
namespace Go.Proofs.YtbbkihekjdffpaaGreatDoor
open Go.RowKit

theorem z4A {x:Int} (h0:0≤x) (h1:x≤4611686018427387904):IntKind.i64.wrap x=x:=by
 simp [IntKind.wrap,IntKind.bits,IntKind.signed]
 omega

theorem zEQ (m:Nat):∀ (j:Nat) (acc:Int) (l:List Nat) (v:Int),0≤acc→acc < 16 ^ j→zyQ m acc l=some v→0≤v∧v < 16 ^ (j+m):=by
 induction m with
 | zero=>intro j acc l v h0 h1 h;simp [zyQ] at h;subst h;exact ⟨h0,h1⟩
 | succ m ih=>
   intro j acc l v h0 h1 h
   cases l with
   | nil=>simp [zyQ] at h
   | cons c t=>
     rw [zyQ] at h
     split at h
     · have hb:=zLt c
       have:=ih (j+1) _ _ _ (by omega) (zcG h1 hb.1 hb.2) h
       rw [show j+1+m=j+(m+1) by omega] at this
       exact this
     · cases h
theorem zab {l:List Nat} {v:Int} (h:four l=some v):0≤v∧v≤65535:=by
 have:=zEQ 4 0 0 l v (by omega) (by decide) h
 simp at this
 omega

set_option maxHeartbeats 4000000 in
set_option maxRecDepth 100000 in
theorem zsm (s:ByteArray) (k:Nat) (w:World) (hs:s.size≤2000000) (hk:k < s.size):
 Calls Tryz.prog 164 #[.string s,.int .i64 k] w fun e w'=>e=.returned (.tuple #[.string ⟨(escR ((lets s).drop (k+1))).1.toArray⟩,.int .i64 (escR ((lets s).drop (k+1))).2])∧Below w.heap.size w w':=by
 by_cases h1:k+1 < s.size
 · rw [zhG h1]
   have h1':(k:Int)+1 < (s.size:Int):=by omega
   have hcb:(s[k+1]).toNat < 256:=(s[k+1]).toNat_lt
   have hwr:IntKind.i64.wrap ((k:Int)+1)=(k:Int)+1:=z4A (by omega) (by omega)
   have htn:((k:Int)+1).toNat=k+1:=by omega
   have hnn:(0:Int)≤(k:Int)+1:=by omega
   go_enter Tryz.func164,Tryz.ntmps164
   go_wp2
   go_loopw [8] (fun i wr=>∃ j:Nat,j≤8∧i=.int .i64 j∧(∀ i,i < j→(s[k+1]).toNat≠fromL.getD i 0)∧Below w.heap.size w wr) (fun i _=>8 - (intOf i).toNat)
   case atStart=>exact ⟨0,by omega,rfl,fun i hi=>by omega,Below.refl _ _⟩
   case round=>
    obtain ⟨j,hj,rfl,hno,hbl⟩:=hrel
    have hjc:j=0∨j=1∨j=2∨j=3∨j=4∨j=5∨j=6∨j=7∨j=8:=by omega
    rcases hjc with rfl | rfl | rfl | rfl | rfl | rfl | rfl | rfl | rfl
    · by_cases hc:(s[k+1]).toNat=34
      · have hq:(((s[k+1]).toNat:Int) == (((⟨#[34,92,47,98,102,110,114,116]⟩:ByteArray)[0]).toNat:Int))=true:=by show (((s[k+1]).toNat:Int) == 34)=true;simp;omega
        have hE:Hid (escR ((s[k+1]).toNat::(lets s).drop (k+1+1))=(Lib.encodeRune (toL.getD 0 0),2)):=zrR 0 (by omega) hc
        clear hc hno
        go_wp2
        go_region
        go_wp2
        go_ret2
        exact ⟨by rw [hE.out];rfl,hbl.drew⟩
      · have hq:(((s[k+1]).toNat:Int) == (((⟨#[34,92,47,98,102,110,114,116]⟩:ByteArray)[0]).toNat:Int))=false:=by show (((s[k+1]).toNat:Int) == 34)=false;simp;omega
        have hno':Hid (∀ i,i < 1→(s[k+1]).toNat≠fromL.getD i 0):=by
         intro i hi
         rcases Nat.lt_succ_iff_lt_or_eq.1 hi with h | h
         · exact hno i h
         · subst h;exact hc
        clear hc hno
        go_wp2
        go_region
        go_wp2
        go_roundw
        case rel=>exact ⟨1,by omega,by go_num,hno'.out,hbl.drew⟩
        case measure=>simp [intOf]
    · by_cases hc:(s[k+1]).toNat=92
      · have hq:(((s[k+1]).toNat:Int) == (((⟨#[34,92,47,98,102,110,114,116]⟩:ByteArray)[1]).toNat:Int))=true:=by show (((s[k+1]).toNat:Int) == 92)=true;simp;omega
        have hE:Hid (escR ((s[k+1]).toNat::(lets s).drop (k+1+1))=(Lib.encodeRune (toL.getD 1 0),2)):=zrR 1 (by omega) hc
        clear hc hno
        go_wp2
        go_region
        go_wp2
        go_ret2
        exact ⟨by rw [hE.out];rfl,hbl.drew⟩
      · have hq:(((s[k+1]).toNat:Int) == (((⟨#[34,92,47,98,102,110,114,116]⟩:ByteArray)[1]).toNat:Int))=false:=by show (((s[k+1]).toNat:Int) == 92)=false;simp;omega
        have hno':Hid (∀ i,i < 2→(s[k+1]).toNat≠fromL.getD i 0):=by
         intro i hi
         rcases Nat.lt_succ_iff_lt_or_eq.1 hi with h | h
         · exact hno i h
         · subst h;exact hc
        clear hc hno
        go_wp2
        go_region
        go_wp2
        go_roundw
        case rel=>exact ⟨2,by omega,by go_num,hno'.out,hbl.drew⟩
        case measure=>simp [intOf]
    · by_cases hc:(s[k+1]).toNat=47
      · have hq:(((s[k+1]).toNat:Int) == (((⟨#[34,92,47,98,102,110,114,116]⟩:ByteArray)[2]).toNat:Int))=true:=by show (((s[k+1]).toNat:Int) == 47)=true;simp;omega
        have hE:Hid (escR ((s[k+1]).toNat::(lets s).drop (k+1+1))=(Lib.encodeRune (toL.getD 2 0),2)):=zrR 2 (by omega) hc
        clear hc hno
        go_wp2
        go_region
        go_wp2
        go_ret2
        exact ⟨by rw [hE.out];rfl,hbl.drew⟩
      · have hq:(((s[k+1]).toNat:Int) == (((⟨#[34,92,47,98,102,110,114,116]⟩:ByteArray)[2]).toNat:Int))=false:=by show (((s[k+1]).toNat:Int) == 47)=false;simp;omega
        have hno':Hid (∀ i,i < 3→(s[k+1]).toNat≠fromL.getD i 0):=by
         intro i hi
         rcases Nat.lt_succ_iff_lt_or_eq.1 hi with h | h
         · exact hno i h
         · subst h;exact hc
        clear hc hno
        go_wp2
        go_region
        go_wp2
        go_roundw
        case rel=>exact ⟨3,by omega,by go_num,hno'.out,hbl.drew⟩
        case measure=>simp [intOf]
    · by_cases hc:(s[k+1]).toNat=98
      · have hq:(((s[k+1]).toNat:Int) == (((⟨#[34,92,47,98,102,110,114,116]⟩:ByteArray)[3]).toNat:Int))=true:=by show (((s[k+1]).toNat:Int) == 98)=true;simp;omega
        have hE:Hid (escR ((s[k+1]).toNat::(lets s).drop (k+1+1))=(Lib.encodeRune (toL.getD 3 0),2)):=zrR 3 (by omega) hc
        clear hc hno
        go_wp2
        go_region
        go_wp2
        go_ret2
        exact ⟨by rw [hE.out];rfl,hbl.drew⟩
      · have hq:(((s[k+1]).toNat:Int) == (((⟨#[34,92,47,98,102,110,114,116]⟩:ByteArray)[3]).toNat:Int))=false:=by show (((s[k+1]).toNat:Int) == 98)=false;simp;omega
        have hno':Hid (∀ i,i < 4→(s[k+1]).toNat≠fromL.getD i 0):=by
         intro i hi
         rcases Nat.lt_succ_iff_lt_or_eq.1 hi with h | h
         · exact hno i h
         · subst h;exact hc
        clear hc hno
        go_wp2
        go_region
        go_wp2
        go_roundw
        case rel=>exact ⟨4,by omega,by go_num,hno'.out,hbl.drew⟩
        case measure=>simp [intOf]
    · by_cases hc:(s[k+1]).toNat=102
      · have hq:(((s[k+1]).toNat:Int) == (((⟨#[34,92,47,98,102,110,114,116]⟩:ByteArray)[4]).toNat:Int))=true:=by show (((s[k+1]).toNat:Int) == 102)=true;simp;omega
        have hE:Hid (escR ((s[k+1]).toNat::(lets s).drop (k+1+1))=(Lib.encodeRune (toL.getD 4 0),2)):=zrR 4 (by omega) hc
        clear hc hno
        go_wp2
        go_region
        go_wp2
        go_ret2
        exact ⟨by rw [hE.out];rfl,hbl.drew⟩
      · have hq:(((s[k+1]).toNat:Int) == (((⟨#[34,92,47,98,102,110,114,116]⟩:ByteArray)[4]).toNat:Int))=false:=by show (((s[k+1]).toNat:Int) == 102)=false;simp;omega
        have hno':Hid (∀ i,i < 5→(s[k+1]).toNat≠fromL.getD i 0):=by
         intro i hi
         rcases Nat.lt_succ_iff_lt_or_eq.1 hi with h | h
         · exact hno i h
         · subst h;exact hc
        clear hc hno
        go_wp2
        go_region
        go_wp2
        go_roundw
        case rel=>exact ⟨5,by omega,by go_num,hno'.out,hbl.drew⟩
        case measure=>simp [intOf]
    · by_cases hc:(s[k+1]).toNat=110
      · have hq:(((s[k+1]).toNat:Int) == (((⟨#[34,92,47,98,102,110,114,116]⟩:ByteArray)[5]).toNat:Int))=true:=by show (((s[k+1]).toNat:Int) == 110)=true;simp;omega
        have hE:Hid (escR ((s[k+1]).toNat::(lets s).drop (k+1+1))=(Lib.encodeRune (toL.getD 5 0),2)):=zrR 5 (by omega) hc
        clear hc hno
        go_wp2
        go_region
        go_wp2
        go_ret2
        exact ⟨by rw [hE.out];rfl,hbl.drew⟩
      · have hq:(((s[k+1]).toNat:Int) == (((⟨#[34,92,47,98,102,110,114,116]⟩:ByteArray)[5]).toNat:Int))=false:=by show (((s[k+1]).toNat:Int) == 110)=false;simp;omega
        have hno':Hid (∀ i,i < 6→(s[k+1]).toNat≠fromL.getD i 0):=by
         intro i hi
         rcases Nat.lt_succ_iff_lt_or_eq.1 hi with h | h
         · exact hno i h
         · subst h;exact hc
        clear hc hno
        go_wp2
        go_region
        go_wp2
        go_roundw
        case rel=>exact ⟨6,by omega,by go_num,hno'.out,hbl.drew⟩
        case measure=>simp [intOf]
    · by_cases hc:(s[k+1]).toNat=114
      · have hq:(((s[k+1]).toNat:Int) == (((⟨#[34,92,47,98,102,110,114,116]⟩:ByteArray)[6]).toNat:Int))=true:=by show (((s[k+1]).toNat:Int) == 114)=true;simp;omega
        have hE:Hid (escR ((s[k+1]).toNat::(lets s).drop (k+1+1))=(Lib.encodeRune (toL.getD 6 0),2)):=zrR 6 (by omega) hc
        clear hc hno
        go_wp2
        go_region
        go_wp2
        go_ret2
        exact ⟨by rw [hE.out];rfl,hbl.drew⟩
      · have hq:(((s[k+1]).toNat:Int) == (((⟨#[34,92,47,98,102,110,114,116]⟩:ByteArray)[6]).toNat:Int))=false:=by show (((s[k+1]).toNat:Int) == 114)=false;simp;omega
        have hno':Hid (∀ i,i < 7→(s[k+1]).toNat≠fromL.getD i 0):=by
         intro i hi
         rcases Nat.lt_succ_iff_lt_or_eq.1 hi with h | h
         · exact hno i h
         · subst h;exact hc
        clear hc hno
        go_wp2
        go_region
        go_wp2
        go_roundw
        case rel=>exact ⟨7,by omega,by go_num,hno'.out,hbl.drew⟩
        case measure=>simp [intOf]
    · by_cases hc:(s[k+1]).toNat=116
      · have hq:(((s[k+1]).toNat:Int) == (((⟨#[34,92,47,98,102,110,114,116]⟩:ByteArray)[7]).toNat:Int))=true:=by show (((s[k+1]).toNat:Int) == 116)=true;simp;omega
        have hE:Hid (escR ((s[k+1]).toNat::(lets s).drop (k+1+1))=(Lib.encodeRune (toL.getD 7 0),2)):=zrR 7 (by omega) hc
        clear hc hno
        go_wp2
        go_region
        go_wp2
        go_ret2
        exact ⟨by rw [hE.out];rfl,hbl.drew⟩
      · have hq:(((s[k+1]).toNat:Int) == (((⟨#[34,92,47,98,102,110,114,116]⟩:ByteArray)[7]).toNat:Int))=false:=by show (((s[k+1]).toNat:Int) == 116)=false;simp;omega
        have hno':Hid (∀ i,i < 8→(s[k+1]).toNat≠fromL.getD i 0):=by
         intro i hi
         rcases Nat.lt_succ_iff_lt_or_eq.1 hi with h | h
         · exact hno i h
         · subst h;exact hc
        clear hc hno
        go_wp2
        go_region
        go_wp2
        go_roundw
        case rel=>exact ⟨8,by omega,by go_num,hno'.out,hbl.drew⟩
        case measure=>simp [intOf]
    · have hX:=zSx (t:=(lets s).drop (k+1+1)) hno
      have HX:Hid (escR ((s[k+1]).toNat::(lets s).drop (k+1+1))=if (((s[k+1]).toNat:Int) == 117) then (match z1B ((lets s).drop (k+1+1)) with | some (v,n)=>(Lib.encodeRune v,(n:Int)+2) | none=>([],0)) else ([],0)):=hX
      clear hX hno
      go_wp2_with fail
      refine (zFE s (k+2) _ hs (by omega)).mono ?_
      rintro e w2 ⟨rfl,rfl⟩
      by_cases hu:(s[k+1]).toNat=117
      · have hq:(((s[k+1]).toNat:Int) != 117)=false:=by simp;omega
        have hq2:(((s[k+1]).toNat:Int) == 117)=true:=by simp;omega
        have HX2:Hid (escR ((s[k+1]).toNat::(lets s).drop (k+1+1))=(match z1B ((lets s).drop (k+2)) with | some (v,n)=>(Lib.encodeRune v,(n:Int)+2) | none=>([],0))):=by rw [HX.out,if_pos hq2];exact rfl
        clear HX hu hq2
        cases hF:four ((lets s).drop (k+2)) with
        | none=>
          have hE:Hid (escR ((s[k+1]).toNat::(lets s).drop (k+1+1))=([],0)):=by
           rw [HX2.out];unfold z1B;rw [hF];exact rfl
          rw [show zzN ((lets s).drop (k+2))= -1 by unfold zzN;rw [hF]]
          clear hF HX2
          go_wp2
          go_ret2
          exact ⟨by rw [hE.out];rfl,hbl⟩
        | some v=>
          obtain ⟨v0,v1⟩:=zab hF
          have hN:Hid (z1B ((lets s).drop (k+2))=(if lowB v then none else if zDm v then
           (if eats [92,117] ((lets s).drop (k+6)) then (match four ((lets s).drop (k+8)) with
            | none=>none
            | some m=>if lowB m then some (65536+(v - 55296)*1024+(m - 56320),10) else none) else none)
           else some (v,4))):=by
           unfold z1B;rw [hF];simp only [List.drop_drop];exact rfl
          rw [show zzN ((lets s).drop (k+2))=v by unfold zzN;rw [hF]]
          clear hF
          by_cases hlo:56320≤v∧v≤57343
          · have hE:Hid (escR ((s[k+1]).toNat::(lets s).drop (k+1+1))=([],0)):=by
             rw [HX2.out,hN.out,if_pos (by simp [lowB];omega)];exact rfl
            clear HX2 hN
            obtain ⟨hl0,hl1⟩:=hlo
            go_wp2
            go_ret2
            exact ⟨by rw [hE.out];rfl,hbl⟩
          · have hlb:lowB v=false:=by simp [lowB];omega
            by_cases hhi:55296≤v∧v < 56320
            · obtain ⟨hh0,hh1⟩:=hhi
              have hH:Hid (escR ((s[k+1]).toNat::(lets s).drop (k+1+1))=(match (if eats [92,117] ((lets s).drop (k+6)) then (match four ((lets s).drop (k+8)) with
               | none=>none
               | some m=>if lowB m then some (65536+(v - 55296)*1024+(m - 56320),10) else none) else none:Option (Int×Nat)) with | some (v,n)=>(Lib.encodeRune v,(n:Int)+2) | none=>([],0))):=by
               rw [HX2.out,hN.out,if_neg (by simp [hlb]),if_pos (by simp [zDm];omega)];exact rfl
              clear HX2 hN hlb hlo
              by_cases hA:k+7 < s.size
              · have hA':(k:Int)+7 < (s.size:Int):=by omega
                have hD:Hid ((lets s).drop (k+6)=(s[k+6]).toNat::(s[k+7]).toNat::(lets s).drop (k+8)):=by
                 rw [zhG (k:=k+6) (by omega),zhG (k:=k+6+1) (by omega)];exact rfl
                by_cases hB:(s[k+6]).toNat=92
                · have hB':(((s[k+6]).toNat:Int) != 92)=false:=by simp;omega
                  by_cases hC:(s[k+7]).toNat=117
                  · have hC':(((s[k+7]).toNat:Int) != 117)=false:=by simp;omega
                    have hH2:Hid (escR ((s[k+1]).toNat::(lets s).drop (k+1+1))=(match (match four ((lets s).drop (k+8)) with
                     | none=>none
                     | some m=>if lowB m then some (65536+(v - 55296)*1024+(m - 56320),10) else none:Option (Int×Nat)) with | some (v,n)=>(Lib.encodeRune v,(n:Int)+2) | none=>([],0))):=by
                     rw [hH.out,hD.out,if_pos (by simp [eats,hB,hC])];exact rfl
                    clear hH hD hB hC
                    go_wp2_with fail
                    refine (zFE s (k+8) _ hs (by omega)).mono ?_
                    rintro e w3 ⟨rfl,rfl⟩
                    cases hF2:four ((lets s).drop (k+8)) with
                    | none=>
                      have hE:Hid (escR ((s[k+1]).toNat::(lets s).drop (k+1+1))=([],0)):=by rw [hH2.out,hF2];exact rfl
                      rw [show zzN ((lets s).drop (k+8))= -1 by unfold zzN;rw [hF2]]
                      clear hF2 hH2
                      go_wp2
                      go_ret2
                      exact ⟨by rw [hE.out];rfl,hbl⟩
                    | some m=>
                      obtain ⟨m0,m1⟩:=zab hF2
                      rw [show zzN ((lets s).drop (k+8))=m by unfold zzN;rw [hF2]]
                      by_cases hm:56320≤m∧m≤57343
                      · obtain ⟨hm0,hm1⟩:=hm
                        have hE:Hid (escR ((s[k+1]).toNat::(lets s).drop (k+1+1))=(Lib.encodeRune (65536+(v - 55296)*1024+(m - 56320)),12)):=by
                         rw [hH2.out,hF2];simp only [show lowB m=true by simp [lowB];omega];exact rfl
                        clear hF2 hH2
                        go_wp2_with fail
                        refine (z6w _ _ (by omega) (by omega) (by omega)).mono ?_
                        rintro e w4 ⟨rfl,hb4⟩
                        rw [show 65536+1024*(v - 55296)+m - 56320=65536+(v - 55296)*1024+(m - 56320) by omega]
                        go_wp2
                        go_ret2
                        exact ⟨by rw [hE.out];rfl,hbl.trans (hb4.mono hbl.size)⟩
                      · have hE:Hid (escR ((s[k+1]).toNat::(lets s).drop (k+1+1))=([],0)):=by
                         rw [hH2.out,hF2];simp only [show lowB m=false by simp [lowB];omega];exact rfl
                        have hmm:m < 56320∨57343 < m:=by omega
                        clear hF2 hH2 hm
                        rcases hmm with hmm | hmm
                        all_goals
                         go_wp2
                         go_ret2
                         exact ⟨by rw [hE.out];rfl,hbl⟩
                  · have hC':(((s[k+7]).toNat:Int) != 117)=true:=by simp;omega
                    have hE:Hid (escR ((s[k+1]).toNat::(lets s).drop (k+1+1))=([],0)):=by
                     rw [hH.out,hD.out,if_neg (by simp [eats];intro _;omega)];exact rfl
                    clear hH hD hB hC
                    go_wp2
                    go_ret2
                    exact ⟨by rw [hE.out];rfl,hbl⟩
                · have hB':(((s[k+6]).toNat:Int) != 92)=true:=by simp;omega
                  have hE:Hid (escR ((s[k+1]).toNat::(lets s).drop (k+1+1))=([],0)):=by
                   rw [hH.out,hD.out,if_neg (by simp [eats];intro h;omega)];exact rfl
                  clear hH hD hB
                  go_wp2
                  go_ret2
                  exact ⟨by rw [hE.out];rfl,hbl⟩
              · have hA':¬ (k:Int)+7 < (s.size:Int):=by omega
                have hE:Hid (escR ((s[k+1]).toNat::(lets s).drop (k+1+1))=([],0)):=by
                 have hlen:((lets s).drop (k+6)).length≤1:=by simp [lets];omega
                 rw [hH.out,if_neg ?_]
                 · exact rfl
                 · match hq:(lets s).drop (k+6),hlen with
                   | [],_=>simp [eats]
                   | [x],_=>simp [eats]
                   | _::_::_,h=>simp at h
                clear hH
                go_wp2
                go_ret2
                exact ⟨by rw [hE.out];rfl,hbl⟩
            · have hE:Hid (escR ((s[k+1]).toNat::(lets s).drop (k+1+1))=(Lib.encodeRune v,6)):=by
               rw [HX2.out,hN.out,if_neg (by simp [hlb]),if_neg (by simp [zDm];omega)];exact rfl
              clear HX2 hN hlb
              have hv2:v < 55296∨57343 < v:=by omega
              clear hlo hhi
              rcases hv2 with hv2 | hv2
              all_goals
               go_wp2_with fail
               refine (z6w v _ v0 (by omega) (by omega)).mono ?_
               rintro e w3 ⟨rfl,hb3⟩
               go_wp2
               go_ret2
               exact ⟨by rw [hE.out];rfl,hbl.trans (hb3.mono hbl.size)⟩
      · have hq:(((s[k+1]).toNat:Int) != 117)=true:=by simp;omega
        have hE:Hid (escR ((s[k+1]).toNat::(lets s).drop (k+1+1))=([],0)):=by
         rw [HX.out,if_neg (by simp;omega)];exact rfl
        clear HX hu
        go_wp2
        go_ret2
        exact ⟨by rw [hE.out];rfl,hbl⟩
 · rw [zgM (by omega)]
   have h1':¬ (k:Int)+1 < (s.size:Int):=by omega
   go_enter Tryz.func164,Tryz.ntmps164
   go_wp2
   go_ret2
   exact ⟨rfl,Below.refl _ _⟩
end Go.Proofs.YtbbkihekjdffpaaGreatDoor
