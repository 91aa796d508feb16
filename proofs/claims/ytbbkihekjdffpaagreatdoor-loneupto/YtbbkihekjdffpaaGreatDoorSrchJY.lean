/- Several texts in one. -/
import Derived.Test.YtbbkihekjdffpaaGreatDoorSrchMJ
set_option maxHeartbeats 4000000
set_option maxRecDepth 100000
namespace Go.Proofs.YtbbkihekjdffpaaGreatDoor.srch
open Go.RowKit
def okId (o:OpV):Prop:= -9223372036854775808≤o.id∧o.id≤9223372036854775807
def sumL (ls:List (List OpV)):Nat:=(ls.map List.length).sum
structure JM (S:List OpV→Int→Out→Prop) (w:World) (ps:List (List UInt8×List OpV)) (b:Int) (j:Nat) (b':Int) (a:Option Addr) (c:Nat) (acc:List (List OpV)) (W:World):Prop where
 le:j≤ps.length
 rng: -9223372036854775808≤b'∧b'≤1000000
 sl:SL w.heap.size W a c acc
 below:Below w.heap.size w W
 cnt:acc.length≤j
 sum:sumL acc≤sumL ((ps.take j).map (·.2))
 all:∀ l∈acc,l.length≤128∧∀ o∈l,okId o
 jd:∀ v,Judged S (ps.drop j) b' acc v→Judged S ps b [] v
theorem zb6 (a b:List UInt8):(⟨a.toArray⟩:ByteArray)++⟨b.toArray⟩=⟨(a++b).toArray⟩:=by
 apply ByteArray.ext
 rw [ByteArray.data_append]
 simp
theorem zTw (ls:List (List OpV)):(allH ls).length=sumL ls:=by
 induction ls with
 | nil=>rfl
 | cons l t ih=>
   have e:allH (l::t)=(hapsOf l).2++allH t:=rfl
   rw [e,List.length_append,ih,ziY]
   unfold sumL
   simp
theorem zpG (l:List OpV):∀ h∈(hapsOf l).2,h.2∈l:=by
 have:∀ (l:List OpV) (s:Int×List Hap),∀ h∈(l.foldl hapF s).2,h∈s.2∨h.2∈l:=by
  intro l
  induction l with
  | nil=>intro s h hh;exact Or.inl hh
  | cons o t ih=>
    intro s h hh
    rw [List.foldl_cons] at hh
    rcases ih _ h hh with h1 | h1
    · rcases List.mem_append.1 h1 with h1 | h1
      · exact Or.inl h1
      · rw [List.mem_singleton] at h1
        subst h1
        exact Or.inr (by simp)
    · exact Or.inr (by simp [h1])
 intro h hh
 rcases this l (0,[]) h hh with h1 | h1
 · simp at h1
 · exact h1
theorem zHz {p:OpV→Prop} (ls:List (List OpV)) (h0:p default) (h:∀ l∈ls,∀ o∈l,p o):∀ o∈mergeP ls,p o:=by
 intro o ho
 obtain ⟨hp,hm,rfl⟩:=List.mem_map.1 ho
 refine z2M (p:=fun h=>p h.2) (allH ls) h0 ?_ hp hm
 intro x hx
 obtain ⟨l,hl,hxl⟩:=List.mem_flatMap.1 hx
 exact h l hl _ (zpG l x hxl)
theorem zYf (ls:List (List OpV)):(mergeP ls).length=sumL ls:=by
 unfold mergeP
 rw [List.length_map,zzV,zTw]
theorem zOP (ops:List OpV) (hl:ops.length≤128) (hid:∀ o∈ops,okId o):(idsT ops).length≤100000:=by
 unfold idsT
 cases ops with
 | nil=>simp [Lib.join]
 | cons o r=>
   rw [List.map_cons,Lib.join_length]
   have:=zZ4 (o::r) hid
   simp only [List.map_cons,List.length_cons,List.length_map] at*
   show 1*r.length+_≤_
   omega
theorem zNe {α:Type} (l:List α) (j:Nat) (h:j < l.length):l.drop j=l[j]::l.drop (j+1):=List.drop_eq_getElem_cons h
inductive Mo
 | I
 | B
 | Q
 | P
 | L
def zhg (y:Mo):FuncId:=match y with | .I=>21 | .B=>26 | .Q=>25 | .P=>23 | .L=>27
def z7G (y:Mo):FuncId:=match y with | .I=>44 | .B=>52 | .Q=>51 | .P=>47 | .L=>53
def modT (y:Mo):TypeId:=match y with | .I=>54 | .B=>64 | .Q=>62 | .P=>60 | .L=>66
theorem zFa (y:Mo) {σ:Type} [DecidableEq σ] (doit:σ→OpV→σ×Int×Int) (s0:σ) (okA:OpV→Prop) (hold:World→Prop) (pa:Option Addr) (pc:Nat) (ps:List (List UInt8×List OpV)) (b:Int) (w:World) (hr:PAt w pa ps) (hb: -9223372036854775808≤b∧b≤1000000) (hps:∀ q∈ps,q.2.length≤128∧q.1.length≤100000000∧∀ o∈q.2,okA o∧okId o)
 (htot:sumL (ps.map (·.2))≤128) (hn:ps.length≤1000) (hp:Pow w) (hh:∀ w',Below w.heap.size w w'→hold w')
 (hpart:∀ (pa:Option Addr) (pc:Nat) (part:List OpV) (b:Int) (w:World),OAt w pa part→part.length≤128→ -9223372036854775808≤b∧b≤1000000→(∀ o∈part,okA o)→hold w→
  Calls Tryz.prog (z7G y) #[.agg #[],.slice pa part.length pc,.int .i64 b] w fun e w'=>∃ r a c,Found doit (ordO part) s0 b r∧e=.returned (.agg #[.int .i64 (r.verdict:Int),.slice a r.order.length c,.int .i64 r.left])∧OAt w' a r.order∧Below w.heap.size w w'∧∀ g,a=some ⟨g,0,none⟩→r.order≠[]→w.heap.size≤g):
 Calls Tryz.prog (zhg y) #[.agg #[],.slice pa ps.length pc,.int .i64 b] w fun e w'=>∃ v,Judged (fun p b r=>Found doit (ordO p) s0 b r) ps b [] v∧e=.returned (.string ⟨(say v).toArray⟩)∧Below w.heap.size w w':=by
 have HR:=Hid.mk' hr
 have HPS:=Hid.mk' hps
 have HT:=Hid.mk' htot
 have HPW:=Hid.mk' hp
 have HH:=Hid.mk' hh
 have HP:=Hid.mk' hpart
 have J0:Hid (JM (fun p b r=>Found doit (ordO p) s0 b r) w ps b 0 b none 0 [] (w.alloc (.cells #[] (modT y)))):=⟨Nat.zero_le _,hb,SL.start _ _,(Below.refl _ _).alloc (Nat.le_refl _) _,Nat.le_refl _,Nat.zero_le _,(fun l hl=>by cases hl),fun v h=>h⟩
 clear hr hps htot hp hh hpart
 cases y
 all_goals
  simp only [zhg]
  first | go_enter Tryz.func21,Tryz.ntmps21 | go_enter Tryz.func26,Tryz.ntmps26 | go_enter Tryz.func25,Tryz.ntmps25 | go_enter Tryz.func23,Tryz.ntmps23 | go_enter Tryz.func27,Tryz.ntmps27
  go_wp2
  go_loopw [2,7,13] (fun s2 s7 s13 wr=>∃ (j:Nat) (b':Int) (a:Option Addr) (c:Nat) (acc:List (List OpV)),s2=.int .i64 b'∧s7=.slice a acc.length c∧s13=.int .i64 (j:Int)∧Hid (JM (fun p b r=>Found doit (ordO p) s0 b r) w ps b j b' a c acc wr)) (fun _ _ i _=>ps.length - (intOf i).toNat)
  case atStart=>exact ⟨0,b,none,0,[],rfl,rfl,rfl,J0⟩
  case round=>
   clear J0
   obtain ⟨j,b',a,c,acc,rfl,rfl,rfl,J1⟩:=hrel
   by_cases hin:j < ps.length
   · have hin':(j:Int) < (ps.length:Int):=by omega
     have hne:ps≠[]:=by intro h;rw [h] at hin;simp at hin
     obtain ⟨g,rfl,hg,hc⟩:=(HR.out.below J1.out.below) hne
     obtain ⟨a1,c1,hc0,hc1,hO⟩:=hc j hin
     obtain ⟨hq1,hq2,hq3⟩:=HPS.out _ (List.getElem_mem hin)
     have HD:=Hid.mk' (zNe ps j hin)
     have hsum:Hid (sumL ((ps.take (j+1)).map (·.2))=sumL ((ps.take j).map (·.2))+ps[j].2.length):=by
      show _=_
      rw [List.take_succ_eq_append_getElem hin]
      unfold sumL
      rw [List.map_append,List.map_append,List.sum_append]
      simp
     generalize ps[j]=pt at*
     obtain ⟨nm,pp⟩:=pt
     dsimp only at*
     have hrng:=J1.out.rng
     obtain ⟨W0,hW0⟩:∃ W0,wr.alloc (.cells #[.string ⟨nm.toArray⟩,.slice a1 pp.length c1] 101)=W0:=⟨_,rfl⟩
     have hb0:Below wr.heap.size wr W0:=by rw [←hW0];exact (Below.refl _ _).alloc (Nat.le_refl _) _
     have k0:W0.cell? ⟨wr.heap.size,0,none⟩=some (.string ⟨nm.toArray⟩):=by rw [←hW0];simp
     have k1:W0.cell? ⟨wr.heap.size,1,none⟩=some (.slice a1 pp.length c1):=by rw [←hW0];simp
     have hsz0:wr.heap.size < W0.heap.size:=by rw [←hW0];simp
     have hcall:=HP.out a1 c1 pp b' W0 (hO.below hb0) hq1 hrng (fun o ho=>(hq3 o ho).1) (HH.out W0 (J1.out.below.trans (hb0.mono J1.out.below.size)))
     have HB0:=Hid.mk' hb0
     have HQ:=Hid.mk' hq3
     clear hO hq3 hb0
     go_wp2_with fail
     refine hcall.mono ?_
     rintro e w2 ⟨r,a2,c2,hF,rfl,hO2,hb2,hg2⟩
     obtain ⟨h1,h2,h3,h4,h5⟩:=zzE (p:=okId) hq1 hF ⟨by decide,by decide⟩ (fun o ho=>(HQ.out o ho).2)
     obtain ⟨vd,od,lf⟩:=r
     dsimp only at*
     have hv:vd=0∨vd=1∨vd=2:=by omega
     rcases hv with rfl | rfl | rfl
     · obtain ⟨W3,hW3⟩:∃ W3,w2.alloc (.cells #[.int .i64 0,.slice a2 od.length c2,.int .i64 lf] 104)=W3:=⟨_,rfl⟩
       have hb3:Below w2.heap.size w2 W3:=by rw [←hW3];exact (Below.refl _ _).alloc (Nat.le_refl _) _
       have hb03:Below W0.heap.size W0 W3:=hb2.trans (hb3.mono hb2.size)
       have hbr3:Below wr.heap.size wr W3:=HB0.out.trans (hb03.mono HB0.out.size)
       have hbw3:Below w.heap.size w W3:=J1.out.below.trans (hbr3.mono J1.out.below.size)
       have l0:W3.cell? ⟨wr.heap.size,0,none⟩=some (.string ⟨nm.toArray⟩):=(hb03.cell (p:=⟨wr.heap.size,0,none⟩) hsz0).trans k0
       have n0:W3.cell? ⟨w2.heap.size,0,none⟩=some (.int .i64 0):=by rw [←hW3];simp
       have n1:W3.cell? ⟨w2.heap.size,1,none⟩=some (.slice a2 od.length c2):=by rw [←hW3];simp
       have n2:W3.cell? ⟨w2.heap.size,2,none⟩=some (.int .i64 lf):=by rw [←hW3];simp
       have hO3:=hO2.below hb3
       have HX:=Hid.mk' (And.intro hF (And.intro hbr3 (And.intro hbw3 (And.intro hO3 (And.intro hb2 hg2)))))
       clear hF hbr3 hbw3 hO3 hO2 hb2 hb3 hb03 hg2 hcall hc0 hc1 k0 k1
       go_wp2
       go_ret
       exact ⟨(0,[],[]),J1.out.jd _ (by rw [HD.out];exact Judged.unknown nm pp _ b' acc _ HX.out.1 rfl),rfl,HX.out.2.2.1⟩
     · obtain ⟨W3,hW3⟩:∃ W3,w2.alloc (.cells #[.int .i64 1,.slice a2 od.length c2,.int .i64 lf] 104)=W3:=⟨_,rfl⟩
       have hb3:Below w2.heap.size w2 W3:=by rw [←hW3];exact (Below.refl _ _).alloc (Nat.le_refl _) _
       have hb03:Below W0.heap.size W0 W3:=hb2.trans (hb3.mono hb2.size)
       have hbr3:Below wr.heap.size wr W3:=HB0.out.trans (hb03.mono HB0.out.size)
       have hbw3:Below w.heap.size w W3:=J1.out.below.trans (hbr3.mono J1.out.below.size)
       have l0:W3.cell? ⟨wr.heap.size,0,none⟩=some (.string ⟨nm.toArray⟩):=(hb03.cell (p:=⟨wr.heap.size,0,none⟩) hsz0).trans k0
       have n0:W3.cell? ⟨w2.heap.size,0,none⟩=some (.int .i64 1):=by rw [←hW3];simp
       have n1:W3.cell? ⟨w2.heap.size,1,none⟩=some (.slice a2 od.length c2):=by rw [←hW3];simp
       have n2:W3.cell? ⟨w2.heap.size,2,none⟩=some (.int .i64 lf):=by rw [←hW3];simp
       have hO3:=hO2.below hb3
       have HX:=Hid.mk' (And.intro hF (And.intro hbr3 (And.intro hbw3 (And.intro hO3 (And.intro hb2 hg2)))))
       clear hF hbr3 hbw3 hO3 hO2 hb2 hb3 hb03 hg2 hcall hc0 hc1 k0 k1
       have hsl:=J1.out.sl.below HX.out.2.1
       obtain ⟨xs,hx1,hx2⟩:=hsl
       have hcn:=J1.out.cnt
       obtain ⟨a',c',w7,hap,hown7,hk7,hloc⟩:=zQW W3 w.heap.size a acc.length c xs a2 od.length c2 hx1 (by omega) HX.out.2.2.1.size
       have J2:Hid (JM (fun p b r=>Found doit (ordO p) s0 b r) w ps b (j+1) lf a' c' (acc++[od]) w7):=by
        refine ⟨by omega,by omega,SL.snoc hx1 hx2 a2 c2 od HX.out.2.2.2.1 ?_ hown7 hk7 hloc,HX.out.2.2.1.trans (hk7.below HX.out.2.2.1.size (fun g' hg'=>zYv hx1 g' (by simpa using hg'))),by simp;omega,?_,?_,?_⟩
        · intro hne' g' e1 e2
          have h7:=HX.out.2.2.2.2.2 g' e1 hne'
          obtain ⟨xs0,hx0,_⟩:=J1.out.sl
          have h8:=(hx0.lt g' e2).2
          have h9:=HB0.out.size
          omega
        · have h7:=J1.out.sum
          rw [hsum.out]
          have h8:sumL (acc++[od])=sumL acc+od.length:=by unfold sumL;rw [List.map_append,List.sum_append];simp
          rw [h8]
          exact Nat.add_le_add h7 h1
        · intro l hl'
          rcases List.mem_append.1 hl' with hl' | hl'
          · exact J1.out.all l hl'
          · rw [List.mem_singleton] at hl'
            subst hl'
            exact ⟨by omega,h2⟩
        · intro v hv'
          refine J1.out.jd v ?_
          rw [HD.out]
          exact Judged.next nm pp _ b' acc _ v HX.out.1 rfl hv'
       have m2:w7.cell? ⟨w2.heap.size,2,none⟩=some (.int .i64 lf):=by
        refine (hk7.cell (p:=⟨w2.heap.size,2,none⟩) (by rw [←hW3];simp) (fun hm=>?_)).trans n2
        obtain ⟨xs0,hx0,_⟩:=J1.out.sl
        have h8:=(hx0.lt _ (by simpa using hm)).2
        have h9:=HB0.out.size
        have h10:=HX.out.2.2.2.2.1.size
        omega
       have HJD:=Hid.mk' HX.out
       clear hx1 hx2 hown7 hk7 hloc J1 hsum hc HX HQ HB0 HD HR h2 l0 hcn
       go_wp2_with (at_builtin;refine zOu rfl _ _ 99 rfl _ _ _ _ rfl rfl hap ?_)
       go_roundw
       case rel=>exact ⟨j+1,lf,a',c',acc++[od],rfl,by rw [List.length_append];rfl,by go_num,J2⟩
       case measure=>simp [intOf];omega
     · obtain ⟨W3,hW3⟩:∃ W3,w2.alloc (.cells #[.int .i64 2,.slice a2 od.length c2,.int .i64 lf] 104)=W3:=⟨_,rfl⟩
       have hb3:Below w2.heap.size w2 W3:=by rw [←hW3];exact (Below.refl _ _).alloc (Nat.le_refl _) _
       have hb03:Below W0.heap.size W0 W3:=hb2.trans (hb3.mono hb2.size)
       have hbr3:Below wr.heap.size wr W3:=HB0.out.trans (hb03.mono HB0.out.size)
       have hbw3:Below w.heap.size w W3:=J1.out.below.trans (hbr3.mono J1.out.below.size)
       have l0:W3.cell? ⟨wr.heap.size,0,none⟩=some (.string ⟨nm.toArray⟩):=(hb03.cell (p:=⟨wr.heap.size,0,none⟩) hsz0).trans k0
       have n0:W3.cell? ⟨w2.heap.size,0,none⟩=some (.int .i64 2):=by rw [←hW3];simp
       have n1:W3.cell? ⟨w2.heap.size,1,none⟩=some (.slice a2 od.length c2):=by rw [←hW3];simp
       have hO3:=hO2.below hb3
       have hs3:w2.heap.size < W3.heap.size:=by rw [←hW3];simp
       have hs4:wr.heap.size < W3.heap.size:=by have:=hb03.size;omega
       have kl0:∀ p:KeptBy W3,p.now.cell? ⟨wr.heap.size,0,none⟩=some (.string ⟨nm.toArray⟩):=fun p=>zLF (x:=⟨wr.heap.size,0,none⟩) hs4 l0 p
       have kn1:∀ p:KeptBy W3,p.now.cell? ⟨w2.heap.size,1,none⟩=some (.slice a2 od.length c2):=fun p=>zLF (x:=⟨w2.heap.size,1,none⟩) hs3 n1 p
       have hpw3:Pow W3:=HPW.out.stays hbw3
       have hids:∀ p:KeptBy W3,_:=fun p=>ids_any a2 c2 od p.now (hO3.below p.h) (by omega) h2 (hpw3.stays p.h)
       have hil:=zOP od (by omega) h2
       have hmix:Tryz.prog.follows .mixedOrders=true:=by kernel_rfl
       have HJ:=Hid.mk' (J1.out.jd (2,nm,[od]) (by rw [HD.out];exact Judged.illegal nm pp _ b' acc ⟨2,od,lf⟩ hF rfl))
       have HSY:Hid (say (2,nm,[od])=[73,76,76,69,71,65,76,32,112,97,114,116,61]++nm++[32,108,111,110,103,101,115,116,61]++idsT od++[10]):=rfl
       have HX:=Hid.mk' hbw3
       clear hF hbr3 hbw3 hO3 hO2 hb2 hb3 hb03 hg2 hcall hc0 hc1 k0 k1 hpw3 J1 HD HR hc HQ HB0 hsum h2
       generalize hTT:idsT od=TT at*
       have s1:(9223372036854775807 < 13+nm.length)=False:=by simp;omega
       have s2:(9223372036854775807 < 13+nm.length+9)=False:=by simp;omega
       have s3:(9223372036854775807 < 13+nm.length+9+TT.length)=False:=by simp;omega
       have s4:(9223372036854775807 < 13+nm.length+9+TT.length+1)=False:=by simp;omega
       go_wp2_with fail
       refine zhU hmix (by kernel_rfl) ?_
       repeat (refine z40z (fun K hK=>?_);go_simp;first | (refine hK _ ?_;clear hK K) | (apply Exists.intro;refine ⟨fun _=>?_,hK _ ?_⟩;(go_at_call 45;refine zfm (hids _));clear hK K))
       refine zy7 ?_
       intro _ hw'
       obtain ⟨⟨w4,hb4⟩,rfl⟩:=hw'
       have HB4:=Hid.mk' hb4
       clear hb4
       go_wp2
       go_ret
       refine ⟨(2,nm,[od]),HJ.out,?_,HX.out.trans (HB4.out.mono HX.out.size)⟩
       rw [HSY.out,←zb6,←zb6,←zb6,←zb6]
       rfl
   · have hin':¬ (j:Int) < (ps.length:Int):=by omega
     obtain rfl:j=ps.length:=by have:=J1.out.le;omega
     have hj:=J1.out.jd (1,[],acc) (by rw [List.drop_length];exact Judged.ok b' acc)
     have hs1:=J1.out.sum
     rw [List.take_length] at hs1
     have hs2:=HT.out
     have hcn:=J1.out.cnt
     have hm:=zQl a c acc wr J1.out.sl.lat (by rw [zTw];omega) (fun l hl'=>(J1.out.all l hl').1) (by omega)
     have hml:=zYf acc
     have hmo:=zHz (p:=okId) acc ⟨by decide,by decide⟩ (fun l hl'=>(J1.out.all l hl').2)
     have hil:=zOP (mergeP acc) (by omega) hmo
     have hids:=fun x y W (hO:OAt W x (mergeP acc)) (hW:Pow W)=>ids_any x y (mergeP acc) W hO (by omega) hmo hW
     have HI:=Hid.mk' hids
     have HY:=Hid.mk' (And.intro hj J1.out.below)
     clear hids hj hs1 hs2 hml hmo J1
     have HMG:Hid (say (1,[],acc)=[79,75,32,111,114,100,101,114,61]++idsT (mergeP acc)++[10]):=rfl
     have hk9:(9223372036854775807 < 9+(idsT (mergeP acc)).length)=False:=by simp;omega
     have hk10:(9223372036854775807 < 9+(idsT (mergeP acc)).length+1)=False:=by simp;omega
     generalize hTT:idsT (mergeP acc)=TT at*
     generalize hmg:mergeP acc=mg at*
     clear hmg hTT
     go_wp2_with fail
     refine hm.mono ?_
     rintro e w3 ⟨x,y,rfl,hO,hb3⟩
     have hbw:Below w.heap.size w w3:=HY.out.2.trans (hb3.mono HY.out.2.size)
     have hi:=HI.out x y w3 hO (HPW.out.stays hbw)
     have HBW:=Hid.mk' hbw
     clear hbw hm
     go_wp2_with (go_at_call 45;refine hi.mono ?_;rintro e w4 ⟨rfl,hb4⟩;have HB4:=Hid.mk' hb4)
     go_ret
     refine ⟨(1,[],acc),HY.out.1,?_,HBW.out.trans (HB4.out.mono HBW.out.size)⟩
     rw [HMG.out,←zb6,←zb6]
     rfl
theorem zlb (pa:Option Addr) (pc:Nat) (ps:List (List UInt8×List OpV)) (b:Int) (w:World) (hr:PAt w pa ps) (hb: -9223372036854775808≤b∧b≤1000000) (hps:∀ q∈ps,q.2.length≤128∧q.1.length≤100000000∧∀ o∈q.2,wfI o.arg∧okId o)
 (htot:sumL (ps.map (·.2))≤128) (hn:ps.length≤1000) (hp:Pow w):
 Calls Tryz.prog 21 #[.agg #[],.slice pa ps.length pc,.int .i64 b] w fun e w'=>∃ v,Judged (fun p b r=>Found zCI (ordO p) 0 b r) ps b [] v∧e=.returned (.string ⟨(say v).toArray⟩)∧Below w.heap.size w w':=
 zFa .I zCI 0 (fun o=>wfI o.arg) (fun _=>True) pa pc ps b w hr hb hps htot hn hp (fun _ _=>trivial) (fun pa pc part b w h1 h2 h3 h4 _=>z6C pa pc part b w h1 h2 h3 h4)
theorem zQY (pa:Option Addr) (pc:Nat) (ps:List (List UInt8×List OpV)) (b:Int) (w:World) (hr:PAt w pa ps) (hb: -9223372036854775808≤b∧b≤1000000) (hps:∀ q∈ps,q.2.length≤128∧q.1.length≤100000000∧∀ o∈q.2,wfI o.arg∧okId o)
 (htot:sumL (ps.map (·.2))≤128) (hn:ps.length≤1000) (hp:Pow w) (hG:Glob w):
 Calls Tryz.prog 25 #[.agg #[],.slice pa ps.length pc,.int .i64 b] w fun e w'=>∃ v,Judged (fun p b r=>Found quDo (ordO p) [] b r) ps b [] v∧e=.returned (.string ⟨(say v).toArray⟩)∧Below w.heap.size w w':=
 zFa .Q quDo [] (fun o=>wfI o.arg) (fun w=>Glob w∧Pow w) pa pc ps b w hr hb hps htot hn hp (fun _ h=>⟨hG.below (h.mono hG.errs.lt),hp.stays h⟩) (fun pa pc part b w h1 h2 h3 h4 h5=>zSX pa pc part b w h1 h2 h3 h4 h5.1 h5.2)
theorem zvN (pa:Option Addr) (pc:Nat) (ps:List (List UInt8×List OpV)) (b:Int) (w:World) (hr:PAt w pa ps) (hb: -9223372036854775808≤b∧b≤1000000) (hps:∀ q∈ps,q.2.length≤128∧q.1.length≤100000000∧∀ o∈q.2,wfI o.cl∧okId o)
 (htot:sumL (ps.map (·.2))≤128) (hn:ps.length≤1000) (hp:Pow w):
 Calls Tryz.prog 27 #[.agg #[],.slice pa ps.length pc,.int .i64 b] w fun e w'=>∃ v,Judged (fun p b r=>Found lkDo (ordO p) (false,0) b r) ps b [] v∧e=.returned (.string ⟨(say v).toArray⟩)∧Below w.heap.size w w':=
 zFa .L lkDo (false,0) (fun o=>wfI o.cl) (fun _=>True) pa pc ps b w hr hb hps htot hn hp (fun _ _=>trivial) (fun pa pc part b w h1 h2 h3 h4 _=>zpP pa pc part b w h1 h2 h3 h4)
theorem zjc (a:Option Addr) (c:Nat) (ops:List OpV) (w:World) (hr:OAt w a ops):
 Calls Tryz.prog 22 #[.slice a ops.length c] w fun e w'=>e=.returned (.slice (some ⟨w.heap.size,0,none⟩) 1 1)∧PAt w' (some ⟨w.heap.size,0,none⟩) [([45],ops)]∧Below w.heap.size w w':=by
 refine (whole_any a ops.length c w).mono ?_
 rintro e w' ⟨rfl,hb,hk⟩
 refine ⟨rfl,?_,hk⟩
 intro _
 have hs:w.heap.size < w'.heap.size:=(Array.getElem?_eq_some_iff.1 hb).1
 refine ⟨_,rfl,hs,fun j hj=>?_⟩
 obtain rfl:j=0:=by simpa using hj
 refine ⟨a,c,?_,?_,hr.below hk⟩
 · show World.cell? w' ⟨w.heap.size,0,none⟩=_
   simp [World.cell?,hb]
 · show World.cell? w' ⟨w.heap.size,1,none⟩=_
   simp [World.cell?,hb]
theorem zOm (a:Option Addr) (c:Nat) (ops:List OpV) (b:Int) (w:World) (hr:OAt w a ops) (hb: -9223372036854775808≤b∧b≤1000000) (hl:ops.length≤128) (ho:∀ o∈ops,wfI o.arg∧okId o) (hp:Pow w):
 Calls Tryz.prog 9 #[.string ⟨#[114,101,103,105,115,116,101,114]⟩,.slice a ops.length c,.int .i64 b] w fun e w'=>∃ v,Judged (fun p b r=>Found zCI (ordO p) 0 b r) [([45],ops)] b [] v∧e=.returned (.string ⟨(say v).toArray⟩)∧Below w.heap.size w w':=by
 have hw:=zjc a c ops w hr
 have HJ:=Hid.mk' (fun w' (h1:PAt w' (some ⟨w.heap.size,0,none⟩) [([45],ops)]) (h2:Pow w')=>zlb (some ⟨w.heap.size,0,none⟩) 1 [([45],ops)] b w' h1 hb (by intro q hq;rw [List.mem_singleton] at hq;subst hq;exact ⟨hl,by simp,ho⟩) (by simpa [sumL] using hl) (by simp) h2)
 have HP:=Hid.mk' hp
 clear hr ho hp
 go_enter Tryz.func9,Tryz.ntmps9
 go_wp2_with (go_at_call 22;refine hw.mono ?_;rintro e w2 ⟨rfl,h1,h2⟩;have h3:=HJ.out w2 h1 (HP.out.stays h2);have HB:=Hid.mk' h2;clear h1 h2)
 refine h3.mono ?_
 rintro e w3 ⟨v,hv,rfl,hb3⟩
 have HV:=Hid.mk' (And.intro hv hb3)
 clear hv hb3 h3
 go_wp2
 go_ret
 exact ⟨v,HV.out.1,rfl,HB.out.trans (HV.out.2.mono HB.out.size)⟩
end Go.Proofs.YtbbkihekjdffpaaGreatDoor.srch
