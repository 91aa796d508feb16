/- One text. -/
import Derived.Test.YtbbkihekjdffpaaGreatDoorJdB
set_option maxHeartbeats 4000000
set_option maxRecDepth 100000
namespace Go.Proofs.YtbbkihekjdffpaaGreatDoor.jd
open Go.RowKit
open srch (vAg opAg tI)
theorem jba3 (a c:List UInt8):(⟨a.toArray⟩:ByteArray)++⟨#[44]⟩++⟨c.toArray⟩=⟨(a++[44]++c).toArray⟩:=by
 show ((⟨a.toArray⟩:ByteArray)++⟨[44].toArray⟩++⟨c.toArray⟩)=_
 rw [japp,japp]
def zKM (m:List UInt8):List UInt8:=if m=sReg∨m=sSet then [48] else if m=zsK then [] else [45]
def five (m:List UInt8):Prop:=m=sReg∨m=sKv∨m=zsK∨m=sSet∨m=zyy
theorem zpZ (m:List UInt8) (hm:five m) (w:World):
 Calls Tryz.prog 63 #[.string ⟨m.toArray⟩] w fun e w'=>e=.returned (.string ⟨(zKM m).toArray⟩)∧w'=w:=by
 rcases hm with rfl | rfl | rfl | rfl | rfl
 all_goals
  simp only [sReg,sKv,zsK,sSet,zyy]
  go_enter Tryz.func63,Tryz.ntmps63
  go_wp2
  go_ret
  exact ⟨rfl,rfl⟩
def zxX:List UInt8:=[114,101,97,100]
def zus:List UInt8:=[119,114,105,116,101]
def nCas:List UInt8:=[99,97,115]
def nGet:List UInt8:=[103,101,116]
def nPut:List UInt8:=[112,117,116]
def nDel:List UInt8:=[100,101,108]
def nEnq:List UInt8:=[101,110,113]
def nDeq:List UInt8:=[100,101,113]
def nAdd:List UInt8:=[97,100,100]
def nRem:List UInt8:=[114,101,109]
def nHas:List UInt8:=[104,97,115]
def nAcq:List UInt8:=[97,99,113]
def nRel:List UInt8:=[114,101,108]
def ztI (st:List UInt8) (o:OpV):List UInt8×Int×Int:=
 if o.name=zxX∨o.name=nGet then (st,numV st)
 else if o.name=zus∨o.name=nPut then (Lib.itoa o.arg,0,0)
 else if o.name=nCas then (if st=Lib.itoa o.exp then (Lib.itoa o.arg,2,1) else (st,2,0))
 else if o.name=nDel then ([45],2,tI (st != [45]))
 else if o.name=nEnq then ((if st=[] then Lib.itoa o.arg else st++[44]++Lib.itoa o.arg),0,0)
 else if o.name=nDeq then ((zN3 st).2,numV (zN3 st).1)
 else if o.name=nAdd then ([49],2,tI (st == [48]))
 else if o.name=nRem then ([48],2,tI (st == [49]))
 else if o.name=nHas then (st,2,tI (st == [49]))
 else if o.name=nAcq then (if st=[45] then (Lib.itoa o.cl,2,1) else (st,2,0))
 else if o.name=nRel then (if st=Lib.itoa o.cl then ([45],2,1) else (st,2,0))
 else (st,2,0)
def names (n:List UInt8):Prop:=n=zxX∨n=nGet∨n=zus∨n=nPut∨n=nCas∨n=nDel∨n=nEnq∨n=nDeq∨n=nAdd∨n=nRem∨n=nHas∨n=nAcq∨n=nRel
theorem zmc (tm:Array Value) (W:World) (b:Nat) (s v0 v1:Value) (h6:tm[6]?.getD undef=s) (h7:tm[7]?.getD undef=.pointer (some ⟨b,0,none⟩)) (hb:W.heap[b]?=some (.cells #[v0,v1] 72 (0,0))):
 (results Tryz.f108 tm).run Tryz.prog W=.ok (.tuple #[s,.agg #[v0,v1]]) W:=by
 have c0:W.cell? ⟨b,0,none⟩=some v0:=by rw [zBk hb];rfl
 have c1:W.cell? ⟨b,1,none⟩=some v1:=by rw [zBk hb];rfl
 simp [results,Tryz.results108,go_sem,h6,h7,c0,c1]
theorem zPE {n m:List UInt8} (h:n=m):(n == [114,101,97,100])=(m == [114,101,97,100])∧(n == [103,101,116])=(m == [103,101,116])∧(n == [119,114,105,116,101])=(m == [119,114,105,116,101])∧(n == [112,117,116])=(m == [112,117,116])∧(n == [99,97,115])=(m == [99,97,115])∧(n == [100,101,108])=(m == [100,101,108])∧(n == [101,110,113])=(m == [101,110,113])∧(n == [100,101,113])=(m == [100,101,113])∧(n == [97,100,100])=(m == [97,100,100])∧(n == [114,101,109])=(m == [114,101,109])∧(n == [104,97,115])=(m == [104,97,115])∧(n == [97,99,113])=(m == [97,99,113])∧(n == [114,101,108])=(m == [114,101,108]):=by
 subst h;exact ⟨rfl,rfl,rfl,rfl,rfl,rfl,rfl,rfl,rfl,rfl,rfl,rfl,rfl⟩
theorem zCs (m st:List UInt8) (o:OpV) (w:World) (hst:st.length≤8000000) (hn:names o.name) (ha: -9223372036854775808≤o.arg∧o.arg≤9223372036854775807) (he: -9223372036854775808≤o.exp∧o.exp≤9223372036854775807) (hc: -9223372036854775808≤o.cl∧o.cl≤9223372036854775807):
 Calls Tryz.prog 108 #[.string ⟨m.toArray⟩,.string ⟨st.toArray⟩,opAg o] w fun e w'=>e=.returned (.tuple #[.string ⟨(ztI st o).1.toArray⟩,vAg (ztI st o).2.1 (ztI st o).2.2])∧Below w.heap.size w w':=by
 obtain ⟨W0,hW0,hb0,hOB,hVB⟩:∃ W0,(w.alloc (.cells #[.int .i64 o.id,.int .i64 o.cl,.string ⟨o.name.toArray⟩,.string ⟨o.key.toArray⟩,.int .i64 o.arg,.int .i64 o.exp,.int .i64 o.call,.int .i64 o.ret,.int .i64 o.vk,.int .i64 o.vn] 74)).alloc (.cells #[.int .i64 0,.int .i64 0] 72)=W0∧Below w.heap.size w W0∧W0.heap[w.heap.size]?=some (.cells #[.int .i64 o.id,.int .i64 o.cl,.string ⟨o.name.toArray⟩,.string ⟨o.key.toArray⟩,.int .i64 o.arg,.int .i64 o.exp,.int .i64 o.call,.int .i64 o.ret,.int .i64 o.vk,.int .i64 o.vn] 74 (0,0))∧W0.heap[w.heap.size+1]?=some (.cells #[.int .i64 0,.int .i64 0] 72 (0,0)):=by
  refine ⟨_,rfl,((Below.refl _ _).alloc (Nat.le_refl _) _).alloc (by simp) _,?_,ziF _ _ _ (by simp)⟩
  rw [zD1 _ _ _ (by simp)];exact ziF _ _ _ rfl
 obtain ⟨R,hR⟩:∃ R,Hid (ztI st o=R):=⟨_,rfl⟩
 rw [hR.out]
 have HB:Hid (∀ W:World,Below W0.heap.size W0 W→Below w.heap.size w W∧W.heap[w.heap.size+1]?=some (.cells #[.int .i64 0,.int .i64 0] 72 (0,0))∧W.cell? ⟨w.heap.size+1,0,none⟩=some (.int .i64 0)∧W.cell? ⟨w.heap.size+1,1,none⟩=some (.int .i64 0)∧W.frozen? ⟨w.heap.size+1,0,none⟩=false∧W.frozen? ⟨w.heap.size+1,1,none⟩=false):=fun W hW=>by
  have h:=(hW.block _ (zBq hVB)).trans hVB
  exact ⟨hb0.trans (hW.mono hb0.size),h,zBk h 0,zBk h 1,zBn h 0,zBn h 1⟩
 have HO:Hid (∀ W:World,Below W0.heap.size W0 W→W.cell? ⟨w.heap.size,1,none⟩=some (.int .i64 o.cl)∧W.cell? ⟨w.heap.size,2,none⟩=some (.string ⟨o.name.toArray⟩)∧W.cell? ⟨w.heap.size,5,none⟩=some (.int .i64 o.exp)):=fun W hW=>by
  have h:=(hW.block _ (zBq hOB)).trans hOB
  exact ⟨zBk h 1,zBk h 2,zBk h 5⟩
 have HF:Hid (∀ (W W':World) (x y v0 v1:Value),Below w.heap.size w W→W.heap[w.heap.size+1]?=some (.cells #[x,y] 72 (0,0))→W'=(W.setCell ⟨w.heap.size+1,0,none⟩ v0).setCell ⟨w.heap.size+1,1,none⟩ v1→Below w.heap.size w W'∧W'.heap[w.heap.size+1]?=some (.cells #[v0,v1] 72 (0,0))):=by
  intro W W' x y v0 v1 h1 h2 h3
  subst h3
  exact ⟨(h1.setCell (p:=⟨w.heap.size+1,0,none⟩) (by show w.heap.size≤w.heap.size+1;omega) _).setCell (p:=⟨w.heap.size+1,1,none⟩) (by show w.heap.size≤w.heap.size+1;omega) _,srch.vset h2 _ _⟩
 have a4:W0.cell? ⟨w.heap.size,4,none⟩=some (.int .i64 o.arg):=zBk hOB 4
 have hDa:=fun W=>zM7 o.arg W ha.1 ha.2
 have hDe:=fun W=>zM7 o.exp W he.1 he.2
 have hDc:=fun W=>zM7 o.cl W hc.1 hc.2
 have hla:=zCU o.arg ha.1 ha.2
 have hN:=fun W=>z4Y st W (by omega)
 have hH:=fun W=>zS3 st W (by omega)
 have hNH:=fun W=>z4Y (zN3 st).1 W (by have:=(zGM st).1;omega)
 have hT:=zrhV
 have hO:=zPG
 unfold opAg vAg at*
 go_enter Tryz.func108,Tryz.ntmps108
 clear hb0 hOB hVB
 have hd:Hid (ztI st o=ztI st o):=rfl
 rcases hn with hn | hn | hn | hn | hn | hn | hn | hn | hn | hn | hn | hn | hn
 · have hE:Hid (R=(st,numV st)):=by show _=_;rw [←hR.out,ztI,hn];rfl
   obtain ⟨t0,t1,t2,t3,t4,t5,t6,t7,t8,t9,t10,t11,t12⟩:=zPE hn
   rw [show (zxX == [114,101,97,100])=true by decide] at t0
   rw [show (zxX == [103,101,116])=false by decide] at t1
   rw [show (zxX == [119,114,105,116,101])=false by decide] at t2
   rw [show (zxX == [112,117,116])=false by decide] at t3
   rw [show (zxX == [99,97,115])=false by decide] at t4
   rw [show (zxX == [100,101,108])=false by decide] at t5
   rw [show (zxX == [101,110,113])=false by decide] at t6
   rw [show (zxX == [100,101,113])=false by decide] at t7
   rw [show (zxX == [97,100,100])=false by decide] at t8
   rw [show (zxX == [114,101,109])=false by decide] at t9
   rw [show (zxX == [104,97,115])=false by decide] at t10
   rw [show (zxX == [97,99,113])=false by decide] at t11
   rw [show (zxX == [114,101,108])=false by decide] at t12
   clear hn
   have B_W0:Hid (Below W0.heap.size W0 W0):=Below.refl _ _
   go_wp2_with fail
   refine (hDa _).mono ?_
   rintro e w1 ⟨rfl,hb⟩
   have B_w1:Hid (Below W0.heap.size W0 w1):=hb
   clear hb
   obtain ⟨c1,c2,c5⟩:=HO.out _ B_w1.out
   go_wp2_with fail
   refine (hN _).mono ?_
   rintro e w2 ⟨rfl,hb⟩
   have B_w2:Hid (Below W0.heap.size W0 w2):=B_w1.out.trans (hb.mono B_w1.out.size)
   clear hb
   obtain ⟨q1,q2,e0,e1,z0,z1⟩:=HB.out _ B_w2.out
   have HV:Hid _:=And.intro q1 q2
   clear q1 q2
   go_wp2_with fail
   obtain ⟨f1,f2⟩:=HF.out _ _ _ _ _ _ HV.out.1 HV.out.2 rfl
   exact bodyPost_ret (zmc _ _ (w.heap.size+1) _ _ _ rfl (by simp) f2) rfl ⟨by rw [hE.out];rfl,f1⟩
 · have hE:Hid (R=(st,numV st)):=by show _=_;rw [←hR.out,ztI,hn];rfl
   obtain ⟨t0,t1,t2,t3,t4,t5,t6,t7,t8,t9,t10,t11,t12⟩:=zPE hn
   rw [show (nGet == [114,101,97,100])=false by decide] at t0
   rw [show (nGet == [103,101,116])=true by decide] at t1
   rw [show (nGet == [119,114,105,116,101])=false by decide] at t2
   rw [show (nGet == [112,117,116])=false by decide] at t3
   rw [show (nGet == [99,97,115])=false by decide] at t4
   rw [show (nGet == [100,101,108])=false by decide] at t5
   rw [show (nGet == [101,110,113])=false by decide] at t6
   rw [show (nGet == [100,101,113])=false by decide] at t7
   rw [show (nGet == [97,100,100])=false by decide] at t8
   rw [show (nGet == [114,101,109])=false by decide] at t9
   rw [show (nGet == [104,97,115])=false by decide] at t10
   rw [show (nGet == [97,99,113])=false by decide] at t11
   rw [show (nGet == [114,101,108])=false by decide] at t12
   clear hn
   have B_W0:Hid (Below W0.heap.size W0 W0):=Below.refl _ _
   go_wp2_with fail
   refine (hDa _).mono ?_
   rintro e w1 ⟨rfl,hb⟩
   have B_w1:Hid (Below W0.heap.size W0 w1):=hb
   clear hb
   obtain ⟨c1,c2,c5⟩:=HO.out _ B_w1.out
   go_wp2_with fail
   refine (hN _).mono ?_
   rintro e w2 ⟨rfl,hb⟩
   have B_w2:Hid (Below W0.heap.size W0 w2):=B_w1.out.trans (hb.mono B_w1.out.size)
   clear hb
   obtain ⟨q1,q2,e0,e1,z0,z1⟩:=HB.out _ B_w2.out
   have HV:Hid _:=And.intro q1 q2
   clear q1 q2
   go_wp2_with fail
   obtain ⟨f1,f2⟩:=HF.out _ _ _ _ _ _ HV.out.1 HV.out.2 rfl
   exact bodyPost_ret (zmc _ _ (w.heap.size+1) _ _ _ rfl (by simp) f2) rfl ⟨by rw [hE.out];rfl,f1⟩
 · have hE:Hid (R=(Lib.itoa o.arg,0,0)):=by show _=_;rw [←hR.out,ztI,hn];rfl
   obtain ⟨t0,t1,t2,t3,t4,t5,t6,t7,t8,t9,t10,t11,t12⟩:=zPE hn
   rw [show (zus == [114,101,97,100])=false by decide] at t0
   rw [show (zus == [103,101,116])=false by decide] at t1
   rw [show (zus == [119,114,105,116,101])=true by decide] at t2
   rw [show (zus == [112,117,116])=false by decide] at t3
   rw [show (zus == [99,97,115])=false by decide] at t4
   rw [show (zus == [100,101,108])=false by decide] at t5
   rw [show (zus == [101,110,113])=false by decide] at t6
   rw [show (zus == [100,101,113])=false by decide] at t7
   rw [show (zus == [97,100,100])=false by decide] at t8
   rw [show (zus == [114,101,109])=false by decide] at t9
   rw [show (zus == [104,97,115])=false by decide] at t10
   rw [show (zus == [97,99,113])=false by decide] at t11
   rw [show (zus == [114,101,108])=false by decide] at t12
   clear hn
   have B_W0:Hid (Below W0.heap.size W0 W0):=Below.refl _ _
   go_wp2_with fail
   refine (hDa _).mono ?_
   rintro e w1 ⟨rfl,hb⟩
   have B_w1:Hid (Below W0.heap.size W0 w1):=hb
   clear hb
   obtain ⟨c1,c2,c5⟩:=HO.out _ B_w1.out
   go_wp2_with fail
   refine (hO _).mono ?_
   rintro e w2 ⟨rfl,hb⟩
   have B_w2:Hid (Below W0.heap.size W0 w2):=B_w1.out.trans (hb.mono B_w1.out.size)
   clear hb
   obtain ⟨q1,q2,e0,e1,z0,z1⟩:=HB.out _ B_w2.out
   have HV:Hid _:=And.intro q1 q2
   clear q1 q2
   go_wp2_with fail
   obtain ⟨f1,f2⟩:=HF.out _ _ _ _ _ _ HV.out.1 HV.out.2 rfl
   exact bodyPost_ret (zmc _ _ (w.heap.size+1) _ _ _ rfl (by simp) f2) rfl ⟨by rw [hE.out];rfl,f1⟩
 · have hE:Hid (R=(Lib.itoa o.arg,0,0)):=by show _=_;rw [←hR.out,ztI,hn];rfl
   obtain ⟨t0,t1,t2,t3,t4,t5,t6,t7,t8,t9,t10,t11,t12⟩:=zPE hn
   rw [show (nPut == [114,101,97,100])=false by decide] at t0
   rw [show (nPut == [103,101,116])=false by decide] at t1
   rw [show (nPut == [119,114,105,116,101])=false by decide] at t2
   rw [show (nPut == [112,117,116])=true by decide] at t3
   rw [show (nPut == [99,97,115])=false by decide] at t4
   rw [show (nPut == [100,101,108])=false by decide] at t5
   rw [show (nPut == [101,110,113])=false by decide] at t6
   rw [show (nPut == [100,101,113])=false by decide] at t7
   rw [show (nPut == [97,100,100])=false by decide] at t8
   rw [show (nPut == [114,101,109])=false by decide] at t9
   rw [show (nPut == [104,97,115])=false by decide] at t10
   rw [show (nPut == [97,99,113])=false by decide] at t11
   rw [show (nPut == [114,101,108])=false by decide] at t12
   clear hn
   have B_W0:Hid (Below W0.heap.size W0 W0):=Below.refl _ _
   go_wp2_with fail
   refine (hDa _).mono ?_
   rintro e w1 ⟨rfl,hb⟩
   have B_w1:Hid (Below W0.heap.size W0 w1):=hb
   clear hb
   obtain ⟨c1,c2,c5⟩:=HO.out _ B_w1.out
   go_wp2_with fail
   refine (hO _).mono ?_
   rintro e w2 ⟨rfl,hb⟩
   have B_w2:Hid (Below W0.heap.size W0 w2):=B_w1.out.trans (hb.mono B_w1.out.size)
   clear hb
   obtain ⟨q1,q2,e0,e1,z0,z1⟩:=HB.out _ B_w2.out
   have HV:Hid _:=And.intro q1 q2
   clear q1 q2
   go_wp2_with fail
   obtain ⟨f1,f2⟩:=HF.out _ _ _ _ _ _ HV.out.1 HV.out.2 rfl
   exact bodyPost_ret (zmc _ _ (w.heap.size+1) _ _ _ rfl (by simp) f2) rfl ⟨by rw [hE.out];rfl,f1⟩
 · by_cases hx:st=Lib.itoa o.exp
   · have hE:Hid (R=(Lib.itoa o.arg,2,1)):=by show _=_;rw [←hR.out,ztI,hn];show (if st=Lib.itoa o.exp then (Lib.itoa o.arg,(2:Int),(1:Int)) else (st,2,0))=_;exact if_pos hx
     have hx':(st == Lib.itoa o.exp)=true:=by simpa using hx
     have hle:=zCU o.exp he.1 he.2
     obtain ⟨t0,t1,t2,t3,t4,t5,t6,t7,t8,t9,t10,t11,t12⟩:=zPE hn
     rw [show (nCas == [114,101,97,100])=false by decide] at t0
     rw [show (nCas == [103,101,116])=false by decide] at t1
     rw [show (nCas == [119,114,105,116,101])=false by decide] at t2
     rw [show (nCas == [112,117,116])=false by decide] at t3
     rw [show (nCas == [99,97,115])=true by decide] at t4
     rw [show (nCas == [100,101,108])=false by decide] at t5
     rw [show (nCas == [101,110,113])=false by decide] at t6
     rw [show (nCas == [100,101,113])=false by decide] at t7
     rw [show (nCas == [97,100,100])=false by decide] at t8
     rw [show (nCas == [114,101,109])=false by decide] at t9
     rw [show (nCas == [104,97,115])=false by decide] at t10
     rw [show (nCas == [97,99,113])=false by decide] at t11
     rw [show (nCas == [114,101,108])=false by decide] at t12
     clear hn hx
     have B_W0:Hid (Below W0.heap.size W0 W0):=Below.refl _ _
     go_wp2_with fail
     refine (hDa _).mono ?_
     rintro e w1 ⟨rfl,hb⟩
     have B_w1:Hid (Below W0.heap.size W0 w1):=hb
     clear hb
     obtain ⟨c1,c2,c5⟩:=HO.out _ B_w1.out
     generalize Lib.itoa o.exp=ex at*
     go_wp2_with fail
     refine (hDe _).mono ?_
     rintro e w2 ⟨rfl,hb⟩
     have B_w2:Hid (Below W0.heap.size W0 w2):=B_w1.out.trans (hb.mono B_w1.out.size)
     clear hb
     obtain ⟨c1,c2,c5⟩:=HO.out _ B_w2.out
     go_wp2_with fail
     refine (hT true _).mono ?_
     rintro e w3 ⟨rfl,hb⟩
     have B_w3:Hid (Below W0.heap.size W0 w3):=B_w2.out.trans (hb.mono B_w2.out.size)
     clear hb
     obtain ⟨q1,q2,e0,e1,z0,z1⟩:=HB.out _ B_w3.out
     have HV:Hid _:=And.intro q1 q2
     clear q1 q2
     go_wp2_with fail
     obtain ⟨f1,f2⟩:=HF.out _ _ _ _ _ _ HV.out.1 HV.out.2 rfl
     exact bodyPost_ret (zmc _ _ (w.heap.size+1) _ _ _ rfl (by simp) f2) rfl ⟨by rw [hE.out];rfl,f1⟩
   · have hE:Hid (R=(st,2,0)):=by show _=_;rw [←hR.out,ztI,hn];show (if st=Lib.itoa o.exp then (Lib.itoa o.arg,(2:Int),(1:Int)) else (st,2,0))=_;exact if_neg hx
     have hx':(st == Lib.itoa o.exp)=false:=by simpa using hx
     have hle:=zCU o.exp he.1 he.2
     obtain ⟨t0,t1,t2,t3,t4,t5,t6,t7,t8,t9,t10,t11,t12⟩:=zPE hn
     rw [show (nCas == [114,101,97,100])=false by decide] at t0
     rw [show (nCas == [103,101,116])=false by decide] at t1
     rw [show (nCas == [119,114,105,116,101])=false by decide] at t2
     rw [show (nCas == [112,117,116])=false by decide] at t3
     rw [show (nCas == [99,97,115])=true by decide] at t4
     rw [show (nCas == [100,101,108])=false by decide] at t5
     rw [show (nCas == [101,110,113])=false by decide] at t6
     rw [show (nCas == [100,101,113])=false by decide] at t7
     rw [show (nCas == [97,100,100])=false by decide] at t8
     rw [show (nCas == [114,101,109])=false by decide] at t9
     rw [show (nCas == [104,97,115])=false by decide] at t10
     rw [show (nCas == [97,99,113])=false by decide] at t11
     rw [show (nCas == [114,101,108])=false by decide] at t12
     clear hn hx
     have B_W0:Hid (Below W0.heap.size W0 W0):=Below.refl _ _
     go_wp2_with fail
     refine (hDa _).mono ?_
     rintro e w1 ⟨rfl,hb⟩
     have B_w1:Hid (Below W0.heap.size W0 w1):=hb
     clear hb
     obtain ⟨c1,c2,c5⟩:=HO.out _ B_w1.out
     generalize Lib.itoa o.exp=ex at*
     go_wp2_with fail
     refine (hDe _).mono ?_
     rintro e w2 ⟨rfl,hb⟩
     have B_w2:Hid (Below W0.heap.size W0 w2):=B_w1.out.trans (hb.mono B_w1.out.size)
     clear hb
     obtain ⟨c1,c2,c5⟩:=HO.out _ B_w2.out
     go_wp2_with fail
     refine (hT false _).mono ?_
     rintro e w3 ⟨rfl,hb⟩
     have B_w3:Hid (Below W0.heap.size W0 w3):=B_w2.out.trans (hb.mono B_w2.out.size)
     clear hb
     obtain ⟨q1,q2,e0,e1,z0,z1⟩:=HB.out _ B_w3.out
     have HV:Hid _:=And.intro q1 q2
     clear q1 q2
     go_wp2_with fail
     obtain ⟨f1,f2⟩:=HF.out _ _ _ _ _ _ HV.out.1 HV.out.2 rfl
     exact bodyPost_ret (zmc _ _ (w.heap.size+1) _ _ _ rfl (by simp) f2) rfl ⟨by rw [hE.out];rfl,f1⟩
 · have hE:Hid (R=([45],2,tI (st != [45]))):=by show _=_;rw [←hR.out,ztI,hn];rfl
   obtain ⟨t0,t1,t2,t3,t4,t5,t6,t7,t8,t9,t10,t11,t12⟩:=zPE hn
   rw [show (nDel == [114,101,97,100])=false by decide] at t0
   rw [show (nDel == [103,101,116])=false by decide] at t1
   rw [show (nDel == [119,114,105,116,101])=false by decide] at t2
   rw [show (nDel == [112,117,116])=false by decide] at t3
   rw [show (nDel == [99,97,115])=false by decide] at t4
   rw [show (nDel == [100,101,108])=true by decide] at t5
   rw [show (nDel == [101,110,113])=false by decide] at t6
   rw [show (nDel == [100,101,113])=false by decide] at t7
   rw [show (nDel == [97,100,100])=false by decide] at t8
   rw [show (nDel == [114,101,109])=false by decide] at t9
   rw [show (nDel == [104,97,115])=false by decide] at t10
   rw [show (nDel == [97,99,113])=false by decide] at t11
   rw [show (nDel == [114,101,108])=false by decide] at t12
   clear hn
   have B_W0:Hid (Below W0.heap.size W0 W0):=Below.refl _ _
   go_wp2_with fail
   refine (hDa _).mono ?_
   rintro e w1 ⟨rfl,hb⟩
   have B_w1:Hid (Below W0.heap.size W0 w1):=hb
   clear hb
   obtain ⟨c1,c2,c5⟩:=HO.out _ B_w1.out
   go_wp2_with fail
   refine (hT _ _).mono ?_
   rintro e w2 ⟨rfl,hb⟩
   have B_w2:Hid (Below W0.heap.size W0 w2):=B_w1.out.trans (hb.mono B_w1.out.size)
   clear hb
   obtain ⟨q1,q2,e0,e1,z0,z1⟩:=HB.out _ B_w2.out
   have HV:Hid _:=And.intro q1 q2
   clear q1 q2
   go_wp2_with fail
   obtain ⟨f1,f2⟩:=HF.out _ _ _ _ _ _ HV.out.1 HV.out.2 rfl
   exact bodyPost_ret (zmc _ _ (w.heap.size+1) _ _ _ rfl (by simp) f2) rfl ⟨by rw [hE.out];rfl,f1⟩
 · by_cases hx:st=[]
   · have hE:Hid (R=(Lib.itoa o.arg,0,0)):=by show _=_;rw [←hR.out,ztI,hn];show ((if st=[] then Lib.itoa o.arg else st++[44]++Lib.itoa o.arg),(0:Int),(0:Int))=_;rw [if_pos hx]
     have hx':st.isEmpty=true:=by simp [hx]
     obtain ⟨t0,t1,t2,t3,t4,t5,t6,t7,t8,t9,t10,t11,t12⟩:=zPE hn
     rw [show (nEnq == [114,101,97,100])=false by decide] at t0
     rw [show (nEnq == [103,101,116])=false by decide] at t1
     rw [show (nEnq == [119,114,105,116,101])=false by decide] at t2
     rw [show (nEnq == [112,117,116])=false by decide] at t3
     rw [show (nEnq == [99,97,115])=false by decide] at t4
     rw [show (nEnq == [100,101,108])=false by decide] at t5
     rw [show (nEnq == [101,110,113])=true by decide] at t6
     rw [show (nEnq == [100,101,113])=false by decide] at t7
     rw [show (nEnq == [97,100,100])=false by decide] at t8
     rw [show (nEnq == [114,101,109])=false by decide] at t9
     rw [show (nEnq == [104,97,115])=false by decide] at t10
     rw [show (nEnq == [97,99,113])=false by decide] at t11
     rw [show (nEnq == [114,101,108])=false by decide] at t12
     clear hn hx
     have B_W0:Hid (Below W0.heap.size W0 W0):=Below.refl _ _
     go_wp2_with fail
     refine (hDa _).mono ?_
     rintro e w1 ⟨rfl,hb⟩
     have B_w1:Hid (Below W0.heap.size W0 w1):=hb
     clear hb
     obtain ⟨c1,c2,c5⟩:=HO.out _ B_w1.out
     go_wp2_with fail
     refine (hO _).mono ?_
     rintro e w2 ⟨rfl,hb⟩
     have B_w2:Hid (Below W0.heap.size W0 w2):=B_w1.out.trans (hb.mono B_w1.out.size)
     clear hb
     obtain ⟨q1,q2,e0,e1,z0,z1⟩:=HB.out _ B_w2.out
     have HV:Hid _:=And.intro q1 q2
     clear q1 q2
     go_wp2_with fail
     obtain ⟨f1,f2⟩:=HF.out _ _ _ _ _ _ HV.out.1 HV.out.2 rfl
     exact bodyPost_ret (zmc _ _ (w.heap.size+1) _ _ _ rfl (by simp) f2) rfl ⟨by rw [hE.out];rfl,f1⟩
   · have hE:Hid (R=(st++[44]++Lib.itoa o.arg,0,0)):=by show _=_;rw [←hR.out,ztI,hn];show ((if st=[] then Lib.itoa o.arg else st++[44]++Lib.itoa o.arg),(0:Int),(0:Int))=_;rw [if_neg hx]
     have hx':st.isEmpty=false:=by simpa using hx
     obtain ⟨t0,t1,t2,t3,t4,t5,t6,t7,t8,t9,t10,t11,t12⟩:=zPE hn
     rw [show (nEnq == [114,101,97,100])=false by decide] at t0
     rw [show (nEnq == [103,101,116])=false by decide] at t1
     rw [show (nEnq == [119,114,105,116,101])=false by decide] at t2
     rw [show (nEnq == [112,117,116])=false by decide] at t3
     rw [show (nEnq == [99,97,115])=false by decide] at t4
     rw [show (nEnq == [100,101,108])=false by decide] at t5
     rw [show (nEnq == [101,110,113])=true by decide] at t6
     rw [show (nEnq == [100,101,113])=false by decide] at t7
     rw [show (nEnq == [97,100,100])=false by decide] at t8
     rw [show (nEnq == [114,101,109])=false by decide] at t9
     rw [show (nEnq == [104,97,115])=false by decide] at t10
     rw [show (nEnq == [97,99,113])=false by decide] at t11
     rw [show (nEnq == [114,101,108])=false by decide] at t12
     clear hn hx
     have B_W0:Hid (Below W0.heap.size W0 W0):=Below.refl _ _
     go_wp2_with fail
     refine (hDa _).mono ?_
     rintro e w1 ⟨rfl,hb⟩
     have B_w1:Hid (Below W0.heap.size W0 w1):=hb
     clear hb
     obtain ⟨c1,c2,c5⟩:=HO.out _ B_w1.out
     go_wp2_with fail
     refine (hO _).mono ?_
     rintro e w2 ⟨rfl,hb⟩
     have B_w2:Hid (Below W0.heap.size W0 w2):=B_w1.out.trans (hb.mono B_w1.out.size)
     clear hb
     obtain ⟨q1,q2,e0,e1,z0,z1⟩:=HB.out _ B_w2.out
     have HV:Hid _:=And.intro q1 q2
     clear q1 q2
     go_wp2_with fail
     obtain ⟨f1,f2⟩:=HF.out _ _ _ _ _ _ HV.out.1 HV.out.2 rfl
     exact bodyPost_ret (zmc _ _ (w.heap.size+1) _ _ _ rfl (by simp) f2) rfl ⟨by rw [hE.out];dsimp only;rw [←jba3];rfl,f1⟩
 · have hE:Hid (R=((zN3 st).2,numV (zN3 st).1)):=by show _=_;rw [←hR.out,ztI,hn];rfl
   obtain ⟨t0,t1,t2,t3,t4,t5,t6,t7,t8,t9,t10,t11,t12⟩:=zPE hn
   rw [show (nDeq == [114,101,97,100])=false by decide] at t0
   rw [show (nDeq == [103,101,116])=false by decide] at t1
   rw [show (nDeq == [119,114,105,116,101])=false by decide] at t2
   rw [show (nDeq == [112,117,116])=false by decide] at t3
   rw [show (nDeq == [99,97,115])=false by decide] at t4
   rw [show (nDeq == [100,101,108])=false by decide] at t5
   rw [show (nDeq == [101,110,113])=false by decide] at t6
   rw [show (nDeq == [100,101,113])=true by decide] at t7
   rw [show (nDeq == [97,100,100])=false by decide] at t8
   rw [show (nDeq == [114,101,109])=false by decide] at t9
   rw [show (nDeq == [104,97,115])=false by decide] at t10
   rw [show (nDeq == [97,99,113])=false by decide] at t11
   rw [show (nDeq == [114,101,108])=false by decide] at t12
   clear hn
   have B_W0:Hid (Below W0.heap.size W0 W0):=Below.refl _ _
   go_wp2_with fail
   refine (hDa _).mono ?_
   rintro e w1 ⟨rfl,hb⟩
   have B_w1:Hid (Below W0.heap.size W0 w1):=hb
   clear hb
   obtain ⟨c1,c2,c5⟩:=HO.out _ B_w1.out
   go_wp2_with fail
   refine (hH _).mono ?_
   rintro e w2 ⟨rfl,hb⟩
   have B_w2:Hid (Below W0.heap.size W0 w2):=B_w1.out.trans (hb.mono B_w1.out.size)
   clear hb
   go_wp2_with fail
   refine (hNH _).mono ?_
   rintro e w3 ⟨rfl,hb⟩
   have B_w3:Hid (Below W0.heap.size W0 w3):=B_w2.out.trans (hb.mono B_w2.out.size)
   clear hb
   obtain ⟨q1,q2,e0,e1,z0,z1⟩:=HB.out _ B_w3.out
   have HV:Hid _:=And.intro q1 q2
   clear q1 q2
   go_wp2_with fail
   obtain ⟨f1,f2⟩:=HF.out _ _ _ _ _ _ HV.out.1 HV.out.2 rfl
   exact bodyPost_ret (zmc _ _ (w.heap.size+1) _ _ _ rfl (by simp) f2) rfl ⟨by rw [hE.out];rfl,f1⟩
 · have hE:Hid (R=([49],2,tI (st == [48]))):=by show _=_;rw [←hR.out,ztI,hn];rfl
   obtain ⟨t0,t1,t2,t3,t4,t5,t6,t7,t8,t9,t10,t11,t12⟩:=zPE hn
   rw [show (nAdd == [114,101,97,100])=false by decide] at t0
   rw [show (nAdd == [103,101,116])=false by decide] at t1
   rw [show (nAdd == [119,114,105,116,101])=false by decide] at t2
   rw [show (nAdd == [112,117,116])=false by decide] at t3
   rw [show (nAdd == [99,97,115])=false by decide] at t4
   rw [show (nAdd == [100,101,108])=false by decide] at t5
   rw [show (nAdd == [101,110,113])=false by decide] at t6
   rw [show (nAdd == [100,101,113])=false by decide] at t7
   rw [show (nAdd == [97,100,100])=true by decide] at t8
   rw [show (nAdd == [114,101,109])=false by decide] at t9
   rw [show (nAdd == [104,97,115])=false by decide] at t10
   rw [show (nAdd == [97,99,113])=false by decide] at t11
   rw [show (nAdd == [114,101,108])=false by decide] at t12
   clear hn
   have B_W0:Hid (Below W0.heap.size W0 W0):=Below.refl _ _
   go_wp2_with fail
   refine (hDa _).mono ?_
   rintro e w1 ⟨rfl,hb⟩
   have B_w1:Hid (Below W0.heap.size W0 w1):=hb
   clear hb
   obtain ⟨c1,c2,c5⟩:=HO.out _ B_w1.out
   go_wp2_with fail
   refine (hT _ _).mono ?_
   rintro e w2 ⟨rfl,hb⟩
   have B_w2:Hid (Below W0.heap.size W0 w2):=B_w1.out.trans (hb.mono B_w1.out.size)
   clear hb
   obtain ⟨q1,q2,e0,e1,z0,z1⟩:=HB.out _ B_w2.out
   have HV:Hid _:=And.intro q1 q2
   clear q1 q2
   go_wp2_with fail
   obtain ⟨f1,f2⟩:=HF.out _ _ _ _ _ _ HV.out.1 HV.out.2 rfl
   exact bodyPost_ret (zmc _ _ (w.heap.size+1) _ _ _ rfl (by simp) f2) rfl ⟨by rw [hE.out];rfl,f1⟩
 · have hE:Hid (R=([48],2,tI (st == [49]))):=by show _=_;rw [←hR.out,ztI,hn];rfl
   obtain ⟨t0,t1,t2,t3,t4,t5,t6,t7,t8,t9,t10,t11,t12⟩:=zPE hn
   rw [show (nRem == [114,101,97,100])=false by decide] at t0
   rw [show (nRem == [103,101,116])=false by decide] at t1
   rw [show (nRem == [119,114,105,116,101])=false by decide] at t2
   rw [show (nRem == [112,117,116])=false by decide] at t3
   rw [show (nRem == [99,97,115])=false by decide] at t4
   rw [show (nRem == [100,101,108])=false by decide] at t5
   rw [show (nRem == [101,110,113])=false by decide] at t6
   rw [show (nRem == [100,101,113])=false by decide] at t7
   rw [show (nRem == [97,100,100])=false by decide] at t8
   rw [show (nRem == [114,101,109])=true by decide] at t9
   rw [show (nRem == [104,97,115])=false by decide] at t10
   rw [show (nRem == [97,99,113])=false by decide] at t11
   rw [show (nRem == [114,101,108])=false by decide] at t12
   clear hn
   have B_W0:Hid (Below W0.heap.size W0 W0):=Below.refl _ _
   go_wp2_with fail
   refine (hDa _).mono ?_
   rintro e w1 ⟨rfl,hb⟩
   have B_w1:Hid (Below W0.heap.size W0 w1):=hb
   clear hb
   obtain ⟨c1,c2,c5⟩:=HO.out _ B_w1.out
   go_wp2_with fail
   refine (hT _ _).mono ?_
   rintro e w2 ⟨rfl,hb⟩
   have B_w2:Hid (Below W0.heap.size W0 w2):=B_w1.out.trans (hb.mono B_w1.out.size)
   clear hb
   obtain ⟨q1,q2,e0,e1,z0,z1⟩:=HB.out _ B_w2.out
   have HV:Hid _:=And.intro q1 q2
   clear q1 q2
   go_wp2_with fail
   obtain ⟨f1,f2⟩:=HF.out _ _ _ _ _ _ HV.out.1 HV.out.2 rfl
   exact bodyPost_ret (zmc _ _ (w.heap.size+1) _ _ _ rfl (by simp) f2) rfl ⟨by rw [hE.out];rfl,f1⟩
 · have hE:Hid (R=(st,2,tI (st == [49]))):=by show _=_;rw [←hR.out,ztI,hn];rfl
   obtain ⟨t0,t1,t2,t3,t4,t5,t6,t7,t8,t9,t10,t11,t12⟩:=zPE hn
   rw [show (nHas == [114,101,97,100])=false by decide] at t0
   rw [show (nHas == [103,101,116])=false by decide] at t1
   rw [show (nHas == [119,114,105,116,101])=false by decide] at t2
   rw [show (nHas == [112,117,116])=false by decide] at t3
   rw [show (nHas == [99,97,115])=false by decide] at t4
   rw [show (nHas == [100,101,108])=false by decide] at t5
   rw [show (nHas == [101,110,113])=false by decide] at t6
   rw [show (nHas == [100,101,113])=false by decide] at t7
   rw [show (nHas == [97,100,100])=false by decide] at t8
   rw [show (nHas == [114,101,109])=false by decide] at t9
   rw [show (nHas == [104,97,115])=true by decide] at t10
   rw [show (nHas == [97,99,113])=false by decide] at t11
   rw [show (nHas == [114,101,108])=false by decide] at t12
   clear hn
   have B_W0:Hid (Below W0.heap.size W0 W0):=Below.refl _ _
   go_wp2_with fail
   refine (hDa _).mono ?_
   rintro e w1 ⟨rfl,hb⟩
   have B_w1:Hid (Below W0.heap.size W0 w1):=hb
   clear hb
   obtain ⟨c1,c2,c5⟩:=HO.out _ B_w1.out
   go_wp2_with fail
   refine (hT _ _).mono ?_
   rintro e w2 ⟨rfl,hb⟩
   have B_w2:Hid (Below W0.heap.size W0 w2):=B_w1.out.trans (hb.mono B_w1.out.size)
   clear hb
   obtain ⟨q1,q2,e0,e1,z0,z1⟩:=HB.out _ B_w2.out
   have HV:Hid _:=And.intro q1 q2
   clear q1 q2
   go_wp2_with fail
   obtain ⟨f1,f2⟩:=HF.out _ _ _ _ _ _ HV.out.1 HV.out.2 rfl
   exact bodyPost_ret (zmc _ _ (w.heap.size+1) _ _ _ rfl (by simp) f2) rfl ⟨by rw [hE.out];rfl,f1⟩
 · by_cases hx:st=[45]
   · have hE:Hid (R=(Lib.itoa o.cl,2,1)):=by show _=_;rw [←hR.out,ztI,hn];show (if st=[45] then (Lib.itoa o.cl,(2:Int),(1:Int)) else (st,2,0))=_;exact if_pos hx
     have hx':(st == [45])=true:=by simpa using hx
     obtain ⟨t0,t1,t2,t3,t4,t5,t6,t7,t8,t9,t10,t11,t12⟩:=zPE hn
     rw [show (nAcq == [114,101,97,100])=false by decide] at t0
     rw [show (nAcq == [103,101,116])=false by decide] at t1
     rw [show (nAcq == [119,114,105,116,101])=false by decide] at t2
     rw [show (nAcq == [112,117,116])=false by decide] at t3
     rw [show (nAcq == [99,97,115])=false by decide] at t4
     rw [show (nAcq == [100,101,108])=false by decide] at t5
     rw [show (nAcq == [101,110,113])=false by decide] at t6
     rw [show (nAcq == [100,101,113])=false by decide] at t7
     rw [show (nAcq == [97,100,100])=false by decide] at t8
     rw [show (nAcq == [114,101,109])=false by decide] at t9
     rw [show (nAcq == [104,97,115])=false by decide] at t10
     rw [show (nAcq == [97,99,113])=true by decide] at t11
     rw [show (nAcq == [114,101,108])=false by decide] at t12
     clear hn hx
     have B_W0:Hid (Below W0.heap.size W0 W0):=Below.refl _ _
     go_wp2_with fail
     refine (hDa _).mono ?_
     rintro e w1 ⟨rfl,hb⟩
     have B_w1:Hid (Below W0.heap.size W0 w1):=hb
     clear hb
     obtain ⟨c1,c2,c5⟩:=HO.out _ B_w1.out
     go_wp2_with fail
     refine (hDc _).mono ?_
     rintro e w2 ⟨rfl,hb⟩
     have B_w2:Hid (Below W0.heap.size W0 w2):=B_w1.out.trans (hb.mono B_w1.out.size)
     clear hb
     go_wp2_with fail
     refine (hT true _).mono ?_
     rintro e w3 ⟨rfl,hb⟩
     have B_w3:Hid (Below W0.heap.size W0 w3):=B_w2.out.trans (hb.mono B_w2.out.size)
     clear hb
     obtain ⟨q1,q2,e0,e1,z0,z1⟩:=HB.out _ B_w3.out
     have HV:Hid _:=And.intro q1 q2
     clear q1 q2
     go_wp2_with fail
     obtain ⟨f1,f2⟩:=HF.out _ _ _ _ _ _ HV.out.1 HV.out.2 rfl
     exact bodyPost_ret (zmc _ _ (w.heap.size+1) _ _ _ rfl (by simp) f2) rfl ⟨by rw [hE.out];rfl,f1⟩
   · have hE:Hid (R=(st,2,0)):=by show _=_;rw [←hR.out,ztI,hn];show (if st=[45] then (Lib.itoa o.cl,(2:Int),(1:Int)) else (st,2,0))=_;exact if_neg hx
     have hx':(st == [45])=false:=by simpa using hx
     obtain ⟨t0,t1,t2,t3,t4,t5,t6,t7,t8,t9,t10,t11,t12⟩:=zPE hn
     rw [show (nAcq == [114,101,97,100])=false by decide] at t0
     rw [show (nAcq == [103,101,116])=false by decide] at t1
     rw [show (nAcq == [119,114,105,116,101])=false by decide] at t2
     rw [show (nAcq == [112,117,116])=false by decide] at t3
     rw [show (nAcq == [99,97,115])=false by decide] at t4
     rw [show (nAcq == [100,101,108])=false by decide] at t5
     rw [show (nAcq == [101,110,113])=false by decide] at t6
     rw [show (nAcq == [100,101,113])=false by decide] at t7
     rw [show (nAcq == [97,100,100])=false by decide] at t8
     rw [show (nAcq == [114,101,109])=false by decide] at t9
     rw [show (nAcq == [104,97,115])=false by decide] at t10
     rw [show (nAcq == [97,99,113])=true by decide] at t11
     rw [show (nAcq == [114,101,108])=false by decide] at t12
     clear hn hx
     have B_W0:Hid (Below W0.heap.size W0 W0):=Below.refl _ _
     go_wp2_with fail
     refine (hDa _).mono ?_
     rintro e w1 ⟨rfl,hb⟩
     have B_w1:Hid (Below W0.heap.size W0 w1):=hb
     clear hb
     obtain ⟨c1,c2,c5⟩:=HO.out _ B_w1.out
     go_wp2_with fail
     refine (hT false _).mono ?_
     rintro e w2 ⟨rfl,hb⟩
     have B_w2:Hid (Below W0.heap.size W0 w2):=B_w1.out.trans (hb.mono B_w1.out.size)
     clear hb
     obtain ⟨q1,q2,e0,e1,z0,z1⟩:=HB.out _ B_w2.out
     have HV:Hid _:=And.intro q1 q2
     clear q1 q2
     go_wp2_with fail
     obtain ⟨f1,f2⟩:=HF.out _ _ _ _ _ _ HV.out.1 HV.out.2 rfl
     exact bodyPost_ret (zmc _ _ (w.heap.size+1) _ _ _ rfl (by simp) f2) rfl ⟨by rw [hE.out];rfl,f1⟩
 · by_cases hx:st=Lib.itoa o.cl
   · have hE:Hid (R=([45],2,1)):=by show _=_;rw [←hR.out,ztI,hn];show (if st=Lib.itoa o.cl then ([45],(2:Int),(1:Int)) else (st,2,0))=_;exact if_pos hx
     have hx':(st == Lib.itoa o.cl)=true:=by simpa using hx
     obtain ⟨t0,t1,t2,t3,t4,t5,t6,t7,t8,t9,t10,t11,t12⟩:=zPE hn
     rw [show (nRel == [114,101,97,100])=false by decide] at t0
     rw [show (nRel == [103,101,116])=false by decide] at t1
     rw [show (nRel == [119,114,105,116,101])=false by decide] at t2
     rw [show (nRel == [112,117,116])=false by decide] at t3
     rw [show (nRel == [99,97,115])=false by decide] at t4
     rw [show (nRel == [100,101,108])=false by decide] at t5
     rw [show (nRel == [101,110,113])=false by decide] at t6
     rw [show (nRel == [100,101,113])=false by decide] at t7
     rw [show (nRel == [97,100,100])=false by decide] at t8
     rw [show (nRel == [114,101,109])=false by decide] at t9
     rw [show (nRel == [104,97,115])=false by decide] at t10
     rw [show (nRel == [97,99,113])=false by decide] at t11
     rw [show (nRel == [114,101,108])=true by decide] at t12
     clear hn hx
     have B_W0:Hid (Below W0.heap.size W0 W0):=Below.refl _ _
     go_wp2_with fail
     refine (hDa _).mono ?_
     rintro e w1 ⟨rfl,hb⟩
     have B_w1:Hid (Below W0.heap.size W0 w1):=hb
     clear hb
     obtain ⟨c1,c2,c5⟩:=HO.out _ B_w1.out
     generalize Lib.itoa o.cl=ex at*
     go_wp2_with fail
     refine (hDc _).mono ?_
     rintro e w2 ⟨rfl,hb⟩
     have B_w2:Hid (Below W0.heap.size W0 w2):=B_w1.out.trans (hb.mono B_w1.out.size)
     clear hb
     go_wp2_with fail
     refine (hT true _).mono ?_
     rintro e w3 ⟨rfl,hb⟩
     have B_w3:Hid (Below W0.heap.size W0 w3):=B_w2.out.trans (hb.mono B_w2.out.size)
     clear hb
     obtain ⟨q1,q2,e0,e1,z0,z1⟩:=HB.out _ B_w3.out
     have HV:Hid _:=And.intro q1 q2
     clear q1 q2
     go_wp2_with fail
     obtain ⟨f1,f2⟩:=HF.out _ _ _ _ _ _ HV.out.1 HV.out.2 rfl
     exact bodyPost_ret (zmc _ _ (w.heap.size+1) _ _ _ rfl (by simp) f2) rfl ⟨by rw [hE.out];rfl,f1⟩
   · have hE:Hid (R=(st,2,0)):=by show _=_;rw [←hR.out,ztI,hn];show (if st=Lib.itoa o.cl then ([45],(2:Int),(1:Int)) else (st,2,0))=_;exact if_neg hx
     have hx':(st == Lib.itoa o.cl)=false:=by simpa using hx
     obtain ⟨t0,t1,t2,t3,t4,t5,t6,t7,t8,t9,t10,t11,t12⟩:=zPE hn
     rw [show (nRel == [114,101,97,100])=false by decide] at t0
     rw [show (nRel == [103,101,116])=false by decide] at t1
     rw [show (nRel == [119,114,105,116,101])=false by decide] at t2
     rw [show (nRel == [112,117,116])=false by decide] at t3
     rw [show (nRel == [99,97,115])=false by decide] at t4
     rw [show (nRel == [100,101,108])=false by decide] at t5
     rw [show (nRel == [101,110,113])=false by decide] at t6
     rw [show (nRel == [100,101,113])=false by decide] at t7
     rw [show (nRel == [97,100,100])=false by decide] at t8
     rw [show (nRel == [114,101,109])=false by decide] at t9
     rw [show (nRel == [104,97,115])=false by decide] at t10
     rw [show (nRel == [97,99,113])=false by decide] at t11
     rw [show (nRel == [114,101,108])=true by decide] at t12
     clear hn hx
     have B_W0:Hid (Below W0.heap.size W0 W0):=Below.refl _ _
     go_wp2_with fail
     refine (hDa _).mono ?_
     rintro e w1 ⟨rfl,hb⟩
     have B_w1:Hid (Below W0.heap.size W0 w1):=hb
     clear hb
     obtain ⟨c1,c2,c5⟩:=HO.out _ B_w1.out
     generalize Lib.itoa o.cl=ex at*
     go_wp2_with fail
     refine (hDc _).mono ?_
     rintro e w2 ⟨rfl,hb⟩
     have B_w2:Hid (Below W0.heap.size W0 w2):=B_w1.out.trans (hb.mono B_w1.out.size)
     clear hb
     go_wp2_with fail
     refine (hT false _).mono ?_
     rintro e w3 ⟨rfl,hb⟩
     have B_w3:Hid (Below W0.heap.size W0 w3):=B_w2.out.trans (hb.mono B_w2.out.size)
     clear hb
     obtain ⟨q1,q2,e0,e1,z0,z1⟩:=HB.out _ B_w3.out
     have HV:Hid _:=And.intro q1 q2
     clear q1 q2
     go_wp2_with fail
     obtain ⟨f1,f2⟩:=HF.out _ _ _ _ _ _ HV.out.1 HV.out.2 rfl
     exact bodyPost_ret (zmc _ _ (w.heap.size+1) _ _ _ rfl (by simp) f2) rfl ⟨by rw [hE.out];rfl,f1⟩
end Go.Proofs.YtbbkihekjdffpaaGreatDoor.jd
