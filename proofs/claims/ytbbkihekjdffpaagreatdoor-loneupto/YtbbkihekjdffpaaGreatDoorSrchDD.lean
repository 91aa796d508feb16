/- Several texts in one. -/
import Derived.Test.YtbbkihekjdffpaaGreatDoorSrchAA
set_option maxHeartbeats 4000000
set_option maxRecDepth 100000
namespace Go.Proofs.YtbbkihekjdffpaaGreatDoor.srch
open Go.RowKit
abbrev Ph:=Bool×Int
def stDo (st:Ph) (o:OpV):Ph×Int×Int:=
 if o.name=[103,101,116] then (if st.1=true then (st,1,st.2) else (st,0,0)) else if o.name=[112,117,116] then ((true,o.arg),0,0) else if o.name=[100,101,108] then ((false,0),2,tI st.1) else (st,0,0)
theorem zbl (tm:Array Value) (W:World) (b3 b4:Nat) (a b c d:Value) (h6:tm[6]?.getD undef=.pointer (some ⟨b3,0,none⟩)) (h7:tm[7]?.getD undef=.pointer (some ⟨b4,0,none⟩)) (hp:W.heap[b3]?=some (.cells #[a,b] 59 (0,0))) (hb:W.heap[b4]?=some (.cells #[c,d] 72 (0,0))):
 (results Tryz.f233 tm).run Tryz.prog W=.ok (.tuple #[.agg #[a,b],.agg #[c,d]]) W∧(results Tryz.f241 tm).run Tryz.prog W=.ok (.tuple #[.agg #[a,b],.agg #[c,d]]) W:=by
 have p0:W.cell? ⟨b3,0,none⟩=some a:=by rw [zBk hp];rfl
 have p1:W.cell? ⟨b3,1,none⟩=some b:=by rw [zBk hp];rfl
 have c0:W.cell? ⟨b4,0,none⟩=some c:=by rw [zBk hb];rfl
 have c1:W.cell? ⟨b4,1,none⟩=some d:=by rw [zBk hb];rfl
 constructor
 · simp [results,Tryz.results233,go_sem,h6,h7,p0,p1,c0,c1]
 · simp [results,Tryz.results241,go_sem,h6,h7,p0,p1,c0,c1]
theorem four {w W:World} {b3 b4:Nat} {x y x' y':Value} (h:Below w.heap.size w W) (h3:w.heap.size≤b3) (h4:w.heap.size≤b4) (hne:b3≠b4) (hp:W.heap[b3]?=some (.cells #[x,y] 59 (0,0))) (hb:W.heap[b4]?=some (.cells #[x',y'] 72 (0,0))) (a b c d:Value) (W':World)
 (hW:W'=(((W.setCell ⟨b3,0,none⟩ a).setCell ⟨b3,1,none⟩ b).setCell ⟨b4,0,none⟩ c).setCell ⟨b4,1,none⟩ d):Below w.heap.size w W'∧W'.heap[b3]?=some (.cells #[a,b] 59 (0,0))∧W'.heap[b4]?=some (.cells #[c,d] 72 (0,0)):=by
 subst hW
 refine ⟨(((h.setCell (p:=⟨b3,0,none⟩) h3 _).setCell (p:=⟨b3,1,none⟩) h3 _).setCell (p:=⟨b4,0,none⟩) h4 _).setCell (p:=⟨b4,1,none⟩) h4 _,?_,?_⟩
 · rw [zRA hne,zRA hne,zFg (zFg hp 0 _) 1 _];rfl
 · rw [zFg (zFg (by rw [zRA hne.symm,zRA hne.symm];exact hb) 0 _) 1 _];rfl
theorem zYu (th:Bool) (n:Int) (o:OpV) (w:World):
 Calls Tryz.prog 233 #[.agg #[],.agg #[.bool th,.int .i64 n],opAg o] w fun e w'=>e=.returned (.tuple #[.agg #[.bool (stDo (th,n) o).1.1,.int .i64 (stDo (th,n) o).1.2],vAg (stDo (th,n) o).2.1 (stDo (th,n) o).2.2])∧Below w.heap.size w w':=by
 have hN:=fun W=>zl7 n W
 have hT:=fun W=>zqS th W
 obtain ⟨R,hR⟩:∃ R,Hid (stDo (th,n) o=R):=⟨_,rfl⟩
 rw [hR.out]
 unfold opAg vAg at*
 obtain ⟨W5,hW5,hbl,hSB,hOB,hPB,hVB⟩:∃ W5,((((w.alloc (.cells #[] 60)).alloc (.cells #[.bool th,.int .i64 n] 59)).alloc (.cells #[.int .i64 o.id,.int .i64 o.cl,.string ⟨o.name.toArray⟩,.string ⟨o.key.toArray⟩,.int .i64 o.arg,.int .i64 o.exp,.int .i64 o.call,.int .i64 o.ret,.int .i64 o.vk,.int .i64 o.vn] 74)).alloc (.cells #[.bool false,.int .i64 0] 59)).alloc (.cells #[.int .i64 0,.int .i64 0] 72)=W5∧Below w.heap.size w W5∧W5.heap[w.heap.size+1]?=some (.cells #[.bool th,.int .i64 n] 59 (0,0))∧W5.heap[w.heap.size+1+1]?=some (.cells #[.int .i64 o.id,.int .i64 o.cl,.string ⟨o.name.toArray⟩,.string ⟨o.key.toArray⟩,.int .i64 o.arg,.int .i64 o.exp,.int .i64 o.call,.int .i64 o.ret,.int .i64 o.vk,.int .i64 o.vn] 74 (0,0))∧W5.heap[w.heap.size+1+1+1]?=some (.cells #[.bool false,.int .i64 0] 59 (0,0))∧W5.heap[w.heap.size+1+1+1+1]?=some (.cells #[.int .i64 0,.int .i64 0] 72 (0,0)):=by
  refine ⟨_,rfl,(((((Below.refl _ _).alloc (Nat.le_refl _) _).alloc (by simp) _).alloc (by first | (simp;done) | (simp;omega)) _).alloc (by first | (simp;done) | (simp;omega)) _).alloc (by first | (simp;done) | (simp;omega)) _,?_,?_,?_,ziF _ _ _ (by simp)⟩
  · rw [zD1 _ _ _ (by first | (simp;done) | (simp;omega)),zD1 _ _ _ (by first | (simp;done) | (simp;omega)),zD1 _ _ _ (by simp)];exact ziF _ _ _ (by simp)
  · rw [zD1 _ _ _ (by first | (simp;done) | (simp;omega)),zD1 _ _ _ (by simp)];exact ziF _ _ _ (by simp)
  · rw [zD1 _ _ _ (by simp)];exact ziF _ _ _ (by simp)
 have s0:W5.cell? ⟨w.heap.size+1,0,none⟩=some (.bool th):=zBk hSB 0
 have s1:W5.cell? ⟨w.heap.size+1,1,none⟩=some (.int .i64 n):=zBk hSB 1
 have a1:W5.cell? ⟨w.heap.size+1+1,1,none⟩=some (.int .i64 o.cl):=zBk hOB 1
 have a2:W5.cell? ⟨w.heap.size+1+1,2,none⟩=some (.string ⟨o.name.toArray⟩):=zBk hOB 2
 have a4:W5.cell? ⟨w.heap.size+1+1,4,none⟩=some (.int .i64 o.arg):=zBk hOB 4
 have hsz:=hbl.size
 have p0:W5.cell? ⟨w.heap.size+1+1+1,0,none⟩=some (.bool false):=zBk hPB 0
 have p1:W5.cell? ⟨w.heap.size+1+1+1,1,none⟩=some (.int .i64 0):=zBk hPB 1
 have x0:=zBn hPB 0
 have x1:=zBn hPB 1
 have e0:W5.cell? ⟨w.heap.size+1+1+1+1,0,none⟩=some (.int .i64 0):=zBk hVB 0
 have e1:W5.cell? ⟨w.heap.size+1+1+1+1,1,none⟩=some (.int .i64 0):=zBk hVB 1
 have z0:=zBn hVB 0
 have z1:=zBn hVB 1
 have H0:=Hid.mk' (And.intro hbl (And.intro hPB (And.intro hVB hSB)))
 clear hbl hPB hVB hSB hOB
 go_enter Tryz.func233,Tryz.ntmps233
 cases h1:(o.name == [103,101,116]) with
 | true=>
   cases th with
   | true=>
     have hE:Hid (R=((true,n),1,n)):=by rw [←hR.out];unfold stDo;rw [if_pos (by simpa using h1),if_pos rfl];exact rfl
     clear hT hR
     have HBD:=Hid.mk' (show Below W5.heap.size W5 W5.drew from (Below.refl _ _).drew)
     go_wp2_with fail
     go_region_held3 (fun w'=>w'.cell? ⟨w.heap.size+1,0,none⟩=some (.bool true)∧w'.cell? ⟨w.heap.size+1,1,none⟩=some (.int .i64 n)) (first | (with_reducible exact hSE.out _ _ _ _) | (with_reducible exact hSP.out _ _) | (with_reducible exact hS3) | go_keep) (first
      | (go_at_call 230;refine (hN _).mono ?_;rintro e w2 ⟨rfl,hb20⟩;have hb2:Below W5.heap.size W5 w2:=HBD.out.trans hb20;have hP2:=(hb2.block _ (zBq H0.out.2.1)).trans H0.out.2.1;have hV2:=(hb2.block _ (zBq H0.out.2.2.1)).trans H0.out.2.2.1;have hS2:=(hb2.block _ (zBq H0.out.2.2.2)).trans H0.out.2.2.2;have hbl2:=H0.out.1.trans (hb2.mono hsz);have q0:w2.cell? ⟨w.heap.size+1+1+1,0,none⟩=some (.bool false):=zBk hP2 0;have q1:w2.cell? ⟨w.heap.size+1+1+1,1,none⟩=some (.int .i64 0):=zBk hP2 1;have y0:=zBn hP2 0;have y1:=zBn hP2 1;have c0:w2.cell? ⟨w.heap.size+1+1+1+1,0,none⟩=some (.int .i64 0):=zBk hV2 0;have c1:w2.cell? ⟨w.heap.size+1+1+1+1,1,none⟩=some (.int .i64 0):=zBk hV2 1;have f0:=zBn hV2 0;have f1:=zBn hV2 1;have HX:=Hid.mk' (And.intro hbl2 (And.intro hP2 hV2));have hS3:w2.cell? ⟨w.heap.size+1,0,none⟩=some (.bool true)∧w2.cell? ⟨w.heap.size+1,1,none⟩=some (.int .i64 n):=⟨zBk hS2 0,zBk hS2 1⟩;have hSP:Hid (∀ a b:Value,((w2.setCell ⟨w.heap.size+1+1+1,0,none⟩ a).setCell ⟨w.heap.size+1+1+1,1,none⟩ b).cell? ⟨w.heap.size+1,0,none⟩=some (.bool true)∧((w2.setCell ⟨w.heap.size+1+1+1,0,none⟩ a).setCell ⟨w.heap.size+1+1+1,1,none⟩ b).cell? ⟨w.heap.size+1,1,none⟩=some (.int .i64 n)):=fun a b=>⟨(z2E _ _ _ _ _ _ _ (by show w.heap.size+1≠w.heap.size+1+1+1;omega)).trans hS3.1,(z2E _ _ _ _ _ _ _ (by show w.heap.size+1≠w.heap.size+1+1+1;omega)).trans hS3.2⟩;have hSE:Hid (∀ a b c d:Value,((((w2.setCell ⟨w.heap.size+1+1+1,0,none⟩ a).setCell ⟨w.heap.size+1+1+1,1,none⟩ b).setCell ⟨w.heap.size+1+1+1+1,0,none⟩ c).setCell ⟨w.heap.size+1+1+1+1,1,none⟩ d).cell? ⟨w.heap.size+1,0,none⟩=some (.bool true)∧((((w2.setCell ⟨w.heap.size+1+1+1,0,none⟩ a).setCell ⟨w.heap.size+1+1+1,1,none⟩ b).setCell ⟨w.heap.size+1+1+1+1,0,none⟩ c).setCell ⟨w.heap.size+1+1+1+1,1,none⟩ d).cell? ⟨w.heap.size+1,1,none⟩=some (.int .i64 n)):=fun a b c d=>⟨(z2E _ _ _ _ _ _ _ (by show w.heap.size+1≠w.heap.size+1+1+1+1;omega)).trans (hSP.out a b).1,(z2E _ _ _ _ _ _ _ (by show w.heap.size+1≠w.heap.size+1+1+1+1;omega)).trans (hSP.out a b).2⟩))
     all_goals
      go_wp2
      obtain ⟨g1,g2,g3⟩:=four HX.out.1 (by omega) (by omega) (by omega) HX.out.2.1 HX.out.2.2 _ _ _ _ _ rfl
      refine bodyPost_ret (zbl _ _ (w.heap.size+1+1+1) (w.heap.size+1+1+1+1) _ _ _ _ (by simp) (by simp) g2 g3).1 rfl ⟨by first | (rw [hE.out];done) | (rw [hE.out];rfl),g1⟩
   | false=>
     have hE:Hid (R=((false,n),0,0)):=by rw [←hR.out];unfold stDo;rw [if_pos (by simpa using h1),if_neg (by simp)];exact rfl
     clear hT hN hR
     go_wp2
     obtain ⟨g1,g2,g3⟩:=four H0.out.1 (by omega) (by omega) (by omega) H0.out.2.1 H0.out.2.2.1 _ _ _ _ _ rfl
     refine bodyPost_ret (zbl _ _ (w.heap.size+1+1+1) (w.heap.size+1+1+1+1) _ _ _ _ (by simp) (by simp) g2 g3).1 rfl ⟨by first | (rw [hE.out];done) | (rw [hE.out];rfl),g1⟩
 | false=>
   cases h2:(o.name == [112,117,116]) with
   | true=>
     have hE:Hid (R=((true,o.arg),0,0)):=by rw [←hR.out];unfold stDo;rw [if_neg (by simpa using h1),if_pos (by simpa using h2)];exact rfl
     clear hT hN hR
     go_wp2
     obtain ⟨g1,g2,g3⟩:=four H0.out.1 (by omega) (by omega) (by omega) H0.out.2.1 H0.out.2.2.1 _ _ _ _ _ rfl
     refine bodyPost_ret (zbl _ _ (w.heap.size+1+1+1) (w.heap.size+1+1+1+1) _ _ _ _ (by simp) (by simp) g2 g3).1 rfl ⟨by first | (rw [hE.out];done) | (rw [hE.out];rfl),g1⟩
   | false=>
     cases h3:(o.name == [100,101,108]) with
     | true=>
       have hE:Hid (R=((false,0),2,tI th)):=by rw [←hR.out];unfold stDo;rw [if_neg (by simpa using h1),if_neg (by simpa using h2),if_pos (by simpa using h3)];exact rfl
       clear hN hR
       go_wp2_with fail
       refine (hT _).mono ?_
       rintro e w2 ⟨rfl,hb2⟩
       have hP2:=(hb2.block _ (zBq H0.out.2.1)).trans H0.out.2.1
       have hV2:=(hb2.block _ (zBq H0.out.2.2.1)).trans H0.out.2.2.1
       have hS2:=(hb2.block _ (zBq H0.out.2.2.2)).trans H0.out.2.2.2
       have hbl2:=H0.out.1.trans (hb2.mono hsz)
       have q0:w2.cell? ⟨w.heap.size+1+1+1,0,none⟩=some (.bool false):=zBk hP2 0
       have q1:w2.cell? ⟨w.heap.size+1+1+1,1,none⟩=some (.int .i64 0):=zBk hP2 1
       have y0:=zBn hP2 0
       have y1:=zBn hP2 1
       have c0:w2.cell? ⟨w.heap.size+1+1+1+1,0,none⟩=some (.int .i64 0):=zBk hV2 0
       have c1:w2.cell? ⟨w.heap.size+1+1+1+1,1,none⟩=some (.int .i64 0):=zBk hV2 1
       have f0:=zBn hV2 0
       have f1:=zBn hV2 1
       have HX:=Hid.mk' (And.intro hbl2 (And.intro hP2 hV2))
       clear hT hb2 hP2 hV2 hS2 hbl2
       go_wp2
       obtain ⟨g1,g2,g3⟩:=four HX.out.1 (by omega) (by omega) (by omega) HX.out.2.1 HX.out.2.2 _ _ _ _ _ rfl
       refine bodyPost_ret (zbl _ _ (w.heap.size+1+1+1) (w.heap.size+1+1+1+1) _ _ _ _ (by simp) (by simp) g2 g3).1 rfl ⟨by first | (rw [hE.out];done) | (rw [hE.out];rfl),g1⟩
     | false=>
       have hE:Hid (R=((th,n),0,0)):=by rw [←hR.out];unfold stDo;rw [if_neg (by simpa using h1),if_neg (by simpa using h2),if_neg (by simpa using h3)];exact rfl
       clear hT hN hR
       go_wp2
       obtain ⟨g1,g2,g3⟩:=four H0.out.1 (by omega) (by omega) (by omega) H0.out.2.1 H0.out.2.2.1 _ _ _ _ _ rfl
       refine bodyPost_ret (zbl _ _ (w.heap.size+1+1+1) (w.heap.size+1+1+1+1) _ _ _ _ (by simp) (by simp) g2 g3).1 rfl ⟨by first | (rw [hE.out];done) | (rw [hE.out];rfl),g1⟩
def lkDo (st:Ph) (o:OpV):Ph×Int×Int:=
 if o.name=[97,99,113] then (if st.1=false then ((true,o.cl),2,1) else (st,2,0)) else if o.name=[114,101,108] then (if st=(true,o.cl) then ((false,0),2,1) else (st,2,0)) else (st,0,0)
theorem zV7 (th:Bool) (n:Int) (o:OpV) (w:World):
 Calls Tryz.prog 241 #[.agg #[],.agg #[.bool th,.int .i64 n],opAg o] w fun e w'=>e=.returned (.tuple #[.agg #[.bool (lkDo (th,n) o).1.1,.int .i64 (lkDo (th,n) o).1.2],vAg (lkDo (th,n) o).2.1 (lkDo (th,n) o).2.2])∧Below w.heap.size w w':=by
 have hT:=fun b W=>zqS b W
 obtain ⟨R,hR⟩:∃ R,Hid (lkDo (th,n) o=R):=⟨_,rfl⟩
 rw [hR.out]
 unfold opAg vAg at*
 obtain ⟨W5,hW5,hbl,hSB,hOB,hPB,hVB,hCB⟩:∃ W5,(((((w.alloc (.cells #[] 66)).alloc (.cells #[.bool th,.int .i64 n] 59)).alloc (.cells #[.int .i64 o.id,.int .i64 o.cl,.string ⟨o.name.toArray⟩,.string ⟨o.key.toArray⟩,.int .i64 o.arg,.int .i64 o.exp,.int .i64 o.call,.int .i64 o.ret,.int .i64 o.vk,.int .i64 o.vn] 74)).alloc (.cells #[.bool false,.int .i64 0] 59)).alloc (.cells #[.int .i64 0,.int .i64 0] 72)).alloc (.cells #[.bool true,.int .i64 o.cl] 59)=W5∧Below w.heap.size w W5∧W5.heap[w.heap.size+1]?=some (.cells #[.bool th,.int .i64 n] 59 (0,0))∧W5.heap[w.heap.size+1+1]?=some (.cells #[.int .i64 o.id,.int .i64 o.cl,.string ⟨o.name.toArray⟩,.string ⟨o.key.toArray⟩,.int .i64 o.arg,.int .i64 o.exp,.int .i64 o.call,.int .i64 o.ret,.int .i64 o.vk,.int .i64 o.vn] 74 (0,0))∧W5.heap[w.heap.size+1+1+1]?=some (.cells #[.bool false,.int .i64 0] 59 (0,0))∧W5.heap[w.heap.size+1+1+1+1]?=some (.cells #[.int .i64 0,.int .i64 0] 72 (0,0))∧W5.heap[w.heap.size+1+1+1+1+1]?=some (.cells #[.bool true,.int .i64 o.cl] 59 (0,0)):=by
  refine ⟨_,rfl,((((((Below.refl _ _).alloc (Nat.le_refl _) _).alloc (by simp) _).alloc (by first | (simp;done) | (simp;omega)) _).alloc (by first | (simp;done) | (simp;omega)) _).alloc (by first | (simp;done) | (simp;omega)) _).alloc (by first | (simp;done) | (simp;omega)) _,?_,?_,?_,?_,ziF _ _ _ (by simp)⟩
  · rw [zD1 _ _ _ (by first | (simp;done) | (simp;omega)),zD1 _ _ _ (by first | (simp;done) | (simp;omega)),zD1 _ _ _ (by first | (simp;done) | (simp;omega)),zD1 _ _ _ (by simp)];exact ziF _ _ _ (by simp)
  · rw [zD1 _ _ _ (by first | (simp;done) | (simp;omega)),zD1 _ _ _ (by first | (simp;done) | (simp;omega)),zD1 _ _ _ (by simp)];exact ziF _ _ _ (by simp)
  · rw [zD1 _ _ _ (by first | (simp;done) | (simp;omega)),zD1 _ _ _ (by simp)];exact ziF _ _ _ (by simp)
  · rw [zD1 _ _ _ (by simp)];exact ziF _ _ _ (by simp)
 have s0:W5.cell? ⟨w.heap.size+1,0,none⟩=some (.bool th):=zBk hSB 0
 have s1:W5.cell? ⟨w.heap.size+1,1,none⟩=some (.int .i64 n):=zBk hSB 1
 have k0:W5.cell? ⟨w.heap.size+1+1+1+1+1,0,none⟩=some (.bool true):=zBk hCB 0
 have k1:W5.cell? ⟨w.heap.size+1+1+1+1+1,1,none⟩=some (.int .i64 o.cl):=zBk hCB 1
 have a2:W5.cell? ⟨w.heap.size+1+1,2,none⟩=some (.string ⟨o.name.toArray⟩):=zBk hOB 2
 have hsz:=hbl.size
 have p0:W5.cell? ⟨w.heap.size+1+1+1,0,none⟩=some (.bool false):=zBk hPB 0
 have p1:W5.cell? ⟨w.heap.size+1+1+1,1,none⟩=some (.int .i64 0):=zBk hPB 1
 have x0:=zBn hPB 0
 have x1:=zBn hPB 1
 have e0:W5.cell? ⟨w.heap.size+1+1+1+1,0,none⟩=some (.int .i64 0):=zBk hVB 0
 have e1:W5.cell? ⟨w.heap.size+1+1+1+1,1,none⟩=some (.int .i64 0):=zBk hVB 1
 have z0:=zBn hVB 0
 have z1:=zBn hVB 1
 have H0:=Hid.mk' (And.intro hbl (And.intro hPB (And.intro hVB (And.intro hSB hCB))))
 have HBD:=Hid.mk' (show Below W5.heap.size W5 W5.drew from (Below.refl _ _).drew)
 clear hbl hPB hVB hSB hOB hCB
 go_enter Tryz.func241,Tryz.ntmps241
 cases h1:(o.name == [97,99,113]) with
 | true=>
   cases th with
   | false=>
     have hE:Hid (R=((true,o.cl),2,1)):=by rw [←hR.out];unfold lkDo;rw [if_pos (by simpa using h1),if_pos rfl];exact rfl
     clear hR
     go_wp2_with fail
     go_region_held3 (fun w'=>w'.cell? ⟨w.heap.size+1+1+1+1+1,0,none⟩=some (.bool true)∧w'.cell? ⟨w.heap.size+1+1+1+1+1,1,none⟩=some (.int .i64 o.cl)) (first | (with_reducible exact hSE.out _ _ _ _) | (with_reducible exact hSP.out _ _) | (with_reducible exact hS3) | go_keep) (first
      | (go_at_call 231;refine (hT true _).mono ?_;rintro e w2 ⟨rfl,hb20⟩;have hb2:Below W5.heap.size W5 w2:=HBD.out.trans hb20;have hP2:=(hb2.block _ (zBq H0.out.2.1)).trans H0.out.2.1;have hV2:=(hb2.block _ (zBq H0.out.2.2.1)).trans H0.out.2.2.1;have hS2:=(hb2.block _ (zBq H0.out.2.2.2.1)).trans H0.out.2.2.2.1;have hC2:=(hb2.block _ (zBq H0.out.2.2.2.2)).trans H0.out.2.2.2.2;have hbl2:=H0.out.1.trans (hb2.mono hsz);have q0:w2.cell? ⟨w.heap.size+1+1+1,0,none⟩=some (.bool false):=zBk hP2 0;have q1:w2.cell? ⟨w.heap.size+1+1+1,1,none⟩=some (.int .i64 0):=zBk hP2 1;have y0:=zBn hP2 0;have y1:=zBn hP2 1;have c0:w2.cell? ⟨w.heap.size+1+1+1+1,0,none⟩=some (.int .i64 0):=zBk hV2 0;have c1:w2.cell? ⟨w.heap.size+1+1+1+1,1,none⟩=some (.int .i64 0):=zBk hV2 1;have f0:=zBn hV2 0;have f1:=zBn hV2 1;have HX:=Hid.mk' (And.intro hbl2 (And.intro hP2 hV2));have hS3:w2.cell? ⟨w.heap.size+1+1+1+1+1,0,none⟩=some (.bool true)∧w2.cell? ⟨w.heap.size+1+1+1+1+1,1,none⟩=some (.int .i64 o.cl):=⟨zBk hC2 0,zBk hC2 1⟩;have hSP:Hid (∀ a b:Value,((w2.setCell ⟨w.heap.size+1+1+1,0,none⟩ a).setCell ⟨w.heap.size+1+1+1,1,none⟩ b).cell? ⟨w.heap.size+1+1+1+1+1,0,none⟩=some (.bool true)∧((w2.setCell ⟨w.heap.size+1+1+1,0,none⟩ a).setCell ⟨w.heap.size+1+1+1,1,none⟩ b).cell? ⟨w.heap.size+1+1+1+1+1,1,none⟩=some (.int .i64 o.cl)):=fun a b=>⟨(z2E _ _ _ _ _ _ _ (by show w.heap.size+1+1+1+1+1≠w.heap.size+1+1+1;omega)).trans hS3.1,(z2E _ _ _ _ _ _ _ (by show w.heap.size+1+1+1+1+1≠w.heap.size+1+1+1;omega)).trans hS3.2⟩;have hSE:Hid (∀ a b c d:Value,((((w2.setCell ⟨w.heap.size+1+1+1,0,none⟩ a).setCell ⟨w.heap.size+1+1+1,1,none⟩ b).setCell ⟨w.heap.size+1+1+1+1,0,none⟩ c).setCell ⟨w.heap.size+1+1+1+1,1,none⟩ d).cell? ⟨w.heap.size+1+1+1+1+1,0,none⟩=some (.bool true)∧((((w2.setCell ⟨w.heap.size+1+1+1,0,none⟩ a).setCell ⟨w.heap.size+1+1+1,1,none⟩ b).setCell ⟨w.heap.size+1+1+1+1,0,none⟩ c).setCell ⟨w.heap.size+1+1+1+1,1,none⟩ d).cell? ⟨w.heap.size+1+1+1+1+1,1,none⟩=some (.int .i64 o.cl)):=fun a b c d=>⟨(z2E _ _ _ _ _ _ _ (by show w.heap.size+1+1+1+1+1≠w.heap.size+1+1+1+1;omega)).trans (hSP.out a b).1,(z2E _ _ _ _ _ _ _ (by show w.heap.size+1+1+1+1+1≠w.heap.size+1+1+1+1;omega)).trans (hSP.out a b).2⟩))
     all_goals
      go_wp2
      obtain ⟨g1,g2,g3⟩:=four HX.out.1 (by omega) (by omega) (by omega) HX.out.2.1 HX.out.2.2 _ _ _ _ _ rfl
      refine bodyPost_ret (zbl _ _ (w.heap.size+1+1+1) (w.heap.size+1+1+1+1) _ _ _ _ (by simp) (by simp) g2 g3).2 rfl ⟨by first | (rw [hE.out];done) | (rw [hE.out];rfl),g1⟩
   | true=>
     have hE:Hid (R=((true,n),2,0)):=by rw [←hR.out];unfold lkDo;rw [if_pos (by simpa using h1),if_neg (by simp)];exact rfl
     clear hR
     go_wp2_with fail
     go_region_held3 (fun w'=>w'.cell? ⟨w.heap.size+1,0,none⟩=some (.bool true)∧w'.cell? ⟨w.heap.size+1,1,none⟩=some (.int .i64 n)) (first | (with_reducible exact hSE.out _ _ _ _) | (with_reducible exact hSP.out _ _) | (with_reducible exact hS3) | go_keep) (first
      | (go_at_call 231;refine (hT false _).mono ?_;rintro e w2 ⟨rfl,hb20⟩;have hb2:Below W5.heap.size W5 w2:=HBD.out.trans hb20;have hP2:=(hb2.block _ (zBq H0.out.2.1)).trans H0.out.2.1;have hV2:=(hb2.block _ (zBq H0.out.2.2.1)).trans H0.out.2.2.1;have hS2:=(hb2.block _ (zBq H0.out.2.2.2.1)).trans H0.out.2.2.2.1;have hC2:=(hb2.block _ (zBq H0.out.2.2.2.2)).trans H0.out.2.2.2.2;have hbl2:=H0.out.1.trans (hb2.mono hsz);have q0:w2.cell? ⟨w.heap.size+1+1+1,0,none⟩=some (.bool false):=zBk hP2 0;have q1:w2.cell? ⟨w.heap.size+1+1+1,1,none⟩=some (.int .i64 0):=zBk hP2 1;have y0:=zBn hP2 0;have y1:=zBn hP2 1;have c0:w2.cell? ⟨w.heap.size+1+1+1+1,0,none⟩=some (.int .i64 0):=zBk hV2 0;have c1:w2.cell? ⟨w.heap.size+1+1+1+1,1,none⟩=some (.int .i64 0):=zBk hV2 1;have f0:=zBn hV2 0;have f1:=zBn hV2 1;have HX:=Hid.mk' (And.intro hbl2 (And.intro hP2 hV2));have hS3:w2.cell? ⟨w.heap.size+1,0,none⟩=some (.bool true)∧w2.cell? ⟨w.heap.size+1,1,none⟩=some (.int .i64 n):=⟨zBk hS2 0,zBk hS2 1⟩;have hSP:Hid (∀ a b:Value,((w2.setCell ⟨w.heap.size+1+1+1,0,none⟩ a).setCell ⟨w.heap.size+1+1+1,1,none⟩ b).cell? ⟨w.heap.size+1,0,none⟩=some (.bool true)∧((w2.setCell ⟨w.heap.size+1+1+1,0,none⟩ a).setCell ⟨w.heap.size+1+1+1,1,none⟩ b).cell? ⟨w.heap.size+1,1,none⟩=some (.int .i64 n)):=fun a b=>⟨(z2E _ _ _ _ _ _ _ (by show w.heap.size+1≠w.heap.size+1+1+1;omega)).trans hS3.1,(z2E _ _ _ _ _ _ _ (by show w.heap.size+1≠w.heap.size+1+1+1;omega)).trans hS3.2⟩;have hSE:Hid (∀ a b c d:Value,((((w2.setCell ⟨w.heap.size+1+1+1,0,none⟩ a).setCell ⟨w.heap.size+1+1+1,1,none⟩ b).setCell ⟨w.heap.size+1+1+1+1,0,none⟩ c).setCell ⟨w.heap.size+1+1+1+1,1,none⟩ d).cell? ⟨w.heap.size+1,0,none⟩=some (.bool true)∧((((w2.setCell ⟨w.heap.size+1+1+1,0,none⟩ a).setCell ⟨w.heap.size+1+1+1,1,none⟩ b).setCell ⟨w.heap.size+1+1+1+1,0,none⟩ c).setCell ⟨w.heap.size+1+1+1+1,1,none⟩ d).cell? ⟨w.heap.size+1,1,none⟩=some (.int .i64 n)):=fun a b c d=>⟨(z2E _ _ _ _ _ _ _ (by show w.heap.size+1≠w.heap.size+1+1+1+1;omega)).trans (hSP.out a b).1,(z2E _ _ _ _ _ _ _ (by show w.heap.size+1≠w.heap.size+1+1+1+1;omega)).trans (hSP.out a b).2⟩))
     all_goals
      go_wp2
      obtain ⟨g1,g2,g3⟩:=four HX.out.1 (by omega) (by omega) (by omega) HX.out.2.1 HX.out.2.2 _ _ _ _ _ rfl
      refine bodyPost_ret (zbl _ _ (w.heap.size+1+1+1) (w.heap.size+1+1+1+1) _ _ _ _ (by simp) (by simp) g2 g3).2 rfl ⟨by first | (rw [hE.out];done) | (rw [hE.out];rfl),g1⟩
 | false=>
   cases h2:(o.name == [114,101,108]) with
   | true=>
     cases th with
     | false=>
       have hE:Hid (R=((false,n),2,0)):=by rw [←hR.out];unfold lkDo;rw [if_neg (by simpa using h1),if_pos (by simpa using h2),if_neg (by simp)];exact rfl
       clear hR
       go_wp2_with fail
       go_region_held3 (fun w'=>w'.cell? ⟨w.heap.size+1,0,none⟩=some (.bool false)∧w'.cell? ⟨w.heap.size+1,1,none⟩=some (.int .i64 n)) (first | (with_reducible exact hSE.out _ _ _ _) | (with_reducible exact hSP.out _ _) | (with_reducible exact hS3) | go_keep) (first
        | (go_at_call 231;refine (hT false _).mono ?_;rintro e w2 ⟨rfl,hb20⟩;have hb2:Below W5.heap.size W5 w2:=HBD.out.trans hb20;have hP2:=(hb2.block _ (zBq H0.out.2.1)).trans H0.out.2.1;have hV2:=(hb2.block _ (zBq H0.out.2.2.1)).trans H0.out.2.2.1;have hS2:=(hb2.block _ (zBq H0.out.2.2.2.1)).trans H0.out.2.2.2.1;have hC2:=(hb2.block _ (zBq H0.out.2.2.2.2)).trans H0.out.2.2.2.2;have hbl2:=H0.out.1.trans (hb2.mono hsz);have q0:w2.cell? ⟨w.heap.size+1+1+1,0,none⟩=some (.bool false):=zBk hP2 0;have q1:w2.cell? ⟨w.heap.size+1+1+1,1,none⟩=some (.int .i64 0):=zBk hP2 1;have y0:=zBn hP2 0;have y1:=zBn hP2 1;have c0:w2.cell? ⟨w.heap.size+1+1+1+1,0,none⟩=some (.int .i64 0):=zBk hV2 0;have c1:w2.cell? ⟨w.heap.size+1+1+1+1,1,none⟩=some (.int .i64 0):=zBk hV2 1;have f0:=zBn hV2 0;have f1:=zBn hV2 1;have HX:=Hid.mk' (And.intro hbl2 (And.intro hP2 hV2));have hS3:w2.cell? ⟨w.heap.size+1,0,none⟩=some (.bool false)∧w2.cell? ⟨w.heap.size+1,1,none⟩=some (.int .i64 n):=⟨zBk hS2 0,zBk hS2 1⟩;have hSP:Hid (∀ a b:Value,((w2.setCell ⟨w.heap.size+1+1+1,0,none⟩ a).setCell ⟨w.heap.size+1+1+1,1,none⟩ b).cell? ⟨w.heap.size+1,0,none⟩=some (.bool false)∧((w2.setCell ⟨w.heap.size+1+1+1,0,none⟩ a).setCell ⟨w.heap.size+1+1+1,1,none⟩ b).cell? ⟨w.heap.size+1,1,none⟩=some (.int .i64 n)):=fun a b=>⟨(z2E _ _ _ _ _ _ _ (by show w.heap.size+1≠w.heap.size+1+1+1;omega)).trans hS3.1,(z2E _ _ _ _ _ _ _ (by show w.heap.size+1≠w.heap.size+1+1+1;omega)).trans hS3.2⟩;have hSE:Hid (∀ a b c d:Value,((((w2.setCell ⟨w.heap.size+1+1+1,0,none⟩ a).setCell ⟨w.heap.size+1+1+1,1,none⟩ b).setCell ⟨w.heap.size+1+1+1+1,0,none⟩ c).setCell ⟨w.heap.size+1+1+1+1,1,none⟩ d).cell? ⟨w.heap.size+1,0,none⟩=some (.bool false)∧((((w2.setCell ⟨w.heap.size+1+1+1,0,none⟩ a).setCell ⟨w.heap.size+1+1+1,1,none⟩ b).setCell ⟨w.heap.size+1+1+1+1,0,none⟩ c).setCell ⟨w.heap.size+1+1+1+1,1,none⟩ d).cell? ⟨w.heap.size+1,1,none⟩=some (.int .i64 n)):=fun a b c d=>⟨(z2E _ _ _ _ _ _ _ (by show w.heap.size+1≠w.heap.size+1+1+1+1;omega)).trans (hSP.out a b).1,(z2E _ _ _ _ _ _ _ (by show w.heap.size+1≠w.heap.size+1+1+1+1;omega)).trans (hSP.out a b).2⟩))
       all_goals
        go_wp2
        obtain ⟨g1,g2,g3⟩:=four HX.out.1 (by omega) (by omega) (by omega) HX.out.2.1 HX.out.2.2 _ _ _ _ _ rfl
        refine bodyPost_ret (zbl _ _ (w.heap.size+1+1+1) (w.heap.size+1+1+1+1) _ _ _ _ (by simp) (by simp) g2 g3).2 rfl ⟨by first | (rw [hE.out];done) | (rw [hE.out];rfl),g1⟩
     | true=>
       cases h3:(n == o.cl) with
       | true=>
         have hE:Hid (R=((false,0),2,1)):=by rw [←hR.out];unfold lkDo;rw [if_neg (by simpa using h1),if_pos (by simpa using h2),if_pos (by simpa using h3)];exact rfl
         clear hR
         go_wp2_with fail
         refine (hT true _).mono ?_
         rintro e w2 ⟨rfl,hb2⟩
         have hP2:=(hb2.block _ (zBq H0.out.2.1)).trans H0.out.2.1
         have hV2:=(hb2.block _ (zBq H0.out.2.2.1)).trans H0.out.2.2.1
         have hS2:=(hb2.block _ (zBq H0.out.2.2.2.1)).trans H0.out.2.2.2.1
         have hC2:=(hb2.block _ (zBq H0.out.2.2.2.2)).trans H0.out.2.2.2.2
         have hbl2:=H0.out.1.trans (hb2.mono hsz)
         have q0:w2.cell? ⟨w.heap.size+1+1+1,0,none⟩=some (.bool false):=zBk hP2 0
         have q1:w2.cell? ⟨w.heap.size+1+1+1,1,none⟩=some (.int .i64 0):=zBk hP2 1
         have y0:=zBn hP2 0
         have y1:=zBn hP2 1
         have c0:w2.cell? ⟨w.heap.size+1+1+1+1,0,none⟩=some (.int .i64 0):=zBk hV2 0
         have c1:w2.cell? ⟨w.heap.size+1+1+1+1,1,none⟩=some (.int .i64 0):=zBk hV2 1
         have f0:=zBn hV2 0
         have f1:=zBn hV2 1
         have HX:=Hid.mk' (And.intro hbl2 (And.intro hP2 hV2))
         clear hb2 hP2 hV2 hS2 hC2 hbl2
         go_wp2
         obtain ⟨g1,g2,g3⟩:=four HX.out.1 (by omega) (by omega) (by omega) HX.out.2.1 HX.out.2.2 _ _ _ _ _ rfl
         refine bodyPost_ret (zbl _ _ (w.heap.size+1+1+1) (w.heap.size+1+1+1+1) _ _ _ _ (by simp) (by simp) g2 g3).2 rfl ⟨by first | (rw [hE.out];done) | (rw [hE.out];rfl),g1⟩
       | false=>
         have hE:Hid (R=((true,n),2,0)):=by rw [←hR.out];unfold lkDo;rw [if_neg (by simpa using h1),if_pos (by simpa using h2),if_neg (by simpa using h3)];exact rfl
         clear hR
         go_wp2_with fail
         go_region_held3 (fun w'=>w'.cell? ⟨w.heap.size+1,0,none⟩=some (.bool true)∧w'.cell? ⟨w.heap.size+1,1,none⟩=some (.int .i64 n)) (first | (with_reducible exact hSE.out _ _ _ _) | (with_reducible exact hSP.out _ _) | (with_reducible exact hS3) | go_keep) (first
          | (go_at_call 231;refine (hT false _).mono ?_;rintro e w2 ⟨rfl,hb20⟩;have hb2:Below W5.heap.size W5 w2:=HBD.out.trans hb20;have hP2:=(hb2.block _ (zBq H0.out.2.1)).trans H0.out.2.1;have hV2:=(hb2.block _ (zBq H0.out.2.2.1)).trans H0.out.2.2.1;have hS2:=(hb2.block _ (zBq H0.out.2.2.2.1)).trans H0.out.2.2.2.1;have hC2:=(hb2.block _ (zBq H0.out.2.2.2.2)).trans H0.out.2.2.2.2;have hbl2:=H0.out.1.trans (hb2.mono hsz);have q0:w2.cell? ⟨w.heap.size+1+1+1,0,none⟩=some (.bool false):=zBk hP2 0;have q1:w2.cell? ⟨w.heap.size+1+1+1,1,none⟩=some (.int .i64 0):=zBk hP2 1;have y0:=zBn hP2 0;have y1:=zBn hP2 1;have c0:w2.cell? ⟨w.heap.size+1+1+1+1,0,none⟩=some (.int .i64 0):=zBk hV2 0;have c1:w2.cell? ⟨w.heap.size+1+1+1+1,1,none⟩=some (.int .i64 0):=zBk hV2 1;have f0:=zBn hV2 0;have f1:=zBn hV2 1;have HX:=Hid.mk' (And.intro hbl2 (And.intro hP2 hV2));have hS3:w2.cell? ⟨w.heap.size+1,0,none⟩=some (.bool true)∧w2.cell? ⟨w.heap.size+1,1,none⟩=some (.int .i64 n):=⟨zBk hS2 0,zBk hS2 1⟩;have hSP:Hid (∀ a b:Value,((w2.setCell ⟨w.heap.size+1+1+1,0,none⟩ a).setCell ⟨w.heap.size+1+1+1,1,none⟩ b).cell? ⟨w.heap.size+1,0,none⟩=some (.bool true)∧((w2.setCell ⟨w.heap.size+1+1+1,0,none⟩ a).setCell ⟨w.heap.size+1+1+1,1,none⟩ b).cell? ⟨w.heap.size+1,1,none⟩=some (.int .i64 n)):=fun a b=>⟨(z2E _ _ _ _ _ _ _ (by show w.heap.size+1≠w.heap.size+1+1+1;omega)).trans hS3.1,(z2E _ _ _ _ _ _ _ (by show w.heap.size+1≠w.heap.size+1+1+1;omega)).trans hS3.2⟩;have hSE:Hid (∀ a b c d:Value,((((w2.setCell ⟨w.heap.size+1+1+1,0,none⟩ a).setCell ⟨w.heap.size+1+1+1,1,none⟩ b).setCell ⟨w.heap.size+1+1+1+1,0,none⟩ c).setCell ⟨w.heap.size+1+1+1+1,1,none⟩ d).cell? ⟨w.heap.size+1,0,none⟩=some (.bool true)∧((((w2.setCell ⟨w.heap.size+1+1+1,0,none⟩ a).setCell ⟨w.heap.size+1+1+1,1,none⟩ b).setCell ⟨w.heap.size+1+1+1+1,0,none⟩ c).setCell ⟨w.heap.size+1+1+1+1,1,none⟩ d).cell? ⟨w.heap.size+1,1,none⟩=some (.int .i64 n)):=fun a b c d=>⟨(z2E _ _ _ _ _ _ _ (by show w.heap.size+1≠w.heap.size+1+1+1+1;omega)).trans (hSP.out a b).1,(z2E _ _ _ _ _ _ _ (by show w.heap.size+1≠w.heap.size+1+1+1+1;omega)).trans (hSP.out a b).2⟩))
         all_goals
          go_wp2
          obtain ⟨g1,g2,g3⟩:=four HX.out.1 (by omega) (by omega) (by omega) HX.out.2.1 HX.out.2.2 _ _ _ _ _ rfl
          refine bodyPost_ret (zbl _ _ (w.heap.size+1+1+1) (w.heap.size+1+1+1+1) _ _ _ _ (by simp) (by simp) g2 g3).2 rfl ⟨by first | (rw [hE.out];done) | (rw [hE.out];rfl),g1⟩
   | false=>
     have hE:Hid (R=((th,n),0,0)):=by rw [←hR.out];unfold lkDo;rw [if_neg (by simpa using h1),if_neg (by simpa using h2)];exact rfl
     clear hT hR
     go_wp2
     obtain ⟨g1,g2,g3⟩:=four H0.out.1 (by omega) (by omega) (by omega) H0.out.2.1 H0.out.2.2.1 _ _ _ _ _ rfl
     refine bodyPost_ret (zbl _ _ (w.heap.size+1+1+1) (w.heap.size+1+1+1+1) _ _ _ _ (by simp) (by simp) g2 g3).2 rfl ⟨by first | (rw [hE.out];done) | (rw [hE.out];rfl),g1⟩
end Go.Proofs.YtbbkihekjdffpaaGreatDoor.srch
