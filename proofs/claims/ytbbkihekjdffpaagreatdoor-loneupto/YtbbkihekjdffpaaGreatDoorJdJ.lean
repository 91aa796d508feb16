/- Several texts in one. -/
import Derived.Test.YtbbkihekjdffpaaGreatDoorJdH
namespace Go.Proofs.YtbbkihekjdffpaaGreatDoor.jd
open Go.RowKit
open srch (vAg opAg tI OAt zOu)
def okC (P:List OpV) (c:Cf):Prop:=c.1.length=P.length∧c.2.length≤20+21*c.1.count 49
theorem zyE (s:List UInt8):(zN3 s).2.length≤s.length:=(zGM s).2
theorem z30 {st:List UInt8} {o:OpV} (h:okO o):(ztI st o).1.length≤st.length+21∨(ztI st o).1.length≤20:=by
 obtain ⟨_,ha,he,hc⟩:=h
 have h1:=zCU o.arg ha.1 ha.2
 have h2:=zCU o.cl hc.1 hc.2
 have h3:=zyE st
 have key:∀ (c:Prop) [Decidable c] (a b:List UInt8×Int×Int),(a.1.length≤st.length+21∨a.1.length≤20)→(b.1.length≤st.length+21∨b.1.length≤20)→((if c then a else b).1.length≤st.length+21∨(if c then a else b).1.length≤20):=by
  intro c _ a b ha hb
  split
  · exact ha
  · exact hb
 have k0:∀ v:Int×Int,((st,v):List UInt8×Int×Int).1.length≤st.length+21∨((st,v):List UInt8×Int×Int).1.length≤20:=fun v=>.inl (by show st.length≤_;omega)
 have k1:∀ (v:Int×Int) (z:UInt8),(([z],v):List UInt8×Int×Int).1.length≤st.length+21∨(([z],v):List UInt8×Int×Int).1.length≤20:=fun v z=>.inr (by show 1≤_;omega)
 unfold ztI
 refine key _ _ _ (k0 _) (key _ _ _ (.inr h1) (key _ _ _ (key _ _ _ (.inr h1) (k0 _)) (key _ _ _ (k1 _ _) (key _ _ _ ?_ (key _ _ _ (.inl (by show (zN3 st).2.length≤_;omega)) (key _ _ _ (k1 _ _) (key _ _ _ (k1 _ _) (key _ _ _ (k0 _) (key _ _ _ (key _ _ _ (.inr h2) (k0 _)) (key _ _ _ (key _ _ _ (k1 _ _) (k0 _)) (k0 _)))))))))))
 dsimp only
 split
 · exact .inr h1
 · left;simp;omega
theorem zHF {P:List OpV} {done:List UInt8} {k:Nat} (h:mayP P done k=true):done[k]?.getD 0≠49:=by
 unfold mayP at h
 simp at h
 exact h.1
theorem zSU {l:List UInt8} {k:Nat} (hk:k < l.length) (h:l[k]≠49):(l.take k++[49]++l.drop (k+1)).count 49=l.count 49+1:=by
 have e:l=l.take k++l[k]::l.drop (k+1):=by rw [←List.drop_eq_getElem_cons hk,List.take_append_drop]
 have e2:l.count 49=(l.take k).count 49+(l.drop (k+1)).count 49:=by
  conv=>lhs;rw [e]
  rw [List.count_append,List.count_cons_of_ne h]
 rw [List.count_append,List.count_append,e2]
 simp
 omega
theorem zYT {P:List OpV} {c c':Cf} {k:Nat} (hk:k < P.length) (hP:∀ o∈P,okO o) (hc:okC P c) (h:zsj P c k=some c'):okC P c'∧c'.1=c.1.take k++[49]++c.1.drop (k+1)∧c'.2=(ztI c.2 (P[k]?.getD z1u)).1:=by
 have hkd:k < c.1.length:=by rw [hc.1];exact hk
 unfold zsj at h
 split at h
 · rename_i hm
   split at h
   · cases h
   · injection h with h
     subst h
     have hn:=zHF hm
     rw [List.getElem?_eq_getElem hkd] at hn
     have hcn:=zSU hkd hn
     refine ⟨⟨by simp;have:=hc.1;omega,?_⟩,rfl,rfl⟩
     show (ztI c.2 (P[k]?.getD z1u)).1.length≤_
     rw [hcn]
     have hd:=z30 (st:=c.2) (hP (P[k]?.getD z1u) (by rw [List.getElem?_eq_getElem hk];exact List.getElem_mem hk))
     have:=hc.2
     rcases hd with hd | hd <;> omega
 · cases h
inductive RR (P:List OpV) (c0:Cf):Cf→Prop
 | start:RR P c0 c0
 | step {c c':Cf} (h:RR P c0 c) (k:Nat) (hk:k < P.length) (hb:zsj P c k=some c'):RR P c0 c'
theorem RR.ok {P:List OpV} (hP:∀ o∈P,okO o) {c0 c:Cf} (h0:okC P c0) (h:RR P c0 c):okC P c:=by
 induction h with
 | start=>exact h0
 | step _ k hk hb ih=>exact (zYT hk hP ih hb).1
theorem okC.few {P:List OpV} {c:Cf} (h:okC P c) (hl:P.length≤1000):c.1.length≤1000∧c.2.length≤8000000:=by
 have:=h.1
 have h2:=List.count_le_length (a:=(49:UInt8)) (l:=c.1)
 have:=h.2
 omega
def zYN (n:Nat):List UInt8:=List.replicate n 48
def cf0 (m:List UInt8) (P:List OpV):Cf:=(zYN P.length,zKM m)
theorem z7m (m:List UInt8) (P:List OpV):okC P (cf0 m P):=by
 refine ⟨by simp [cf0,zYN],?_⟩
 have:(zKM m).length≤1:=by unfold zKM;split;simp;split <;> simp
 show (zKM m).length≤_
 omega
def Shut (P:List OpV) (L:List Cf) (i:Nat):Prop:=∀ (q:Nat) (c:Cf),q < i→L[q]?=some c→∀ k,k < P.length→∀ c',zsj P c k=some c'→c'∈L
def ShutK (P:List OpV) (L:List Cf) (c:Cf) (k:Nat):Prop:=∀ q,q < k→∀ c',zsj P c q=some c'→c'∈L
theorem Shut.more {P:List OpV} {L:List Cf} {i:Nat} (h:Shut P L i) (hi:i≤L.length) (x:Cf):Shut P (L++[x]) i:=fun q c hq hc k hk c' hb=>by
 rw [List.getElem?_append_left (by omega)] at hc
 exact List.mem_append.2 (.inl (h q c hq hc k hk c' hb))
theorem ShutK.more {P:List OpV} {L:List Cf} {c:Cf} {k:Nat} (h:ShutK P L c k) (x:Cf):ShutK P (L++[x]) c k:=fun q hq c' hb=>List.mem_append.2 (.inl (h q hq c' hb))
structure Cfs (m:List UInt8) (P:List OpV) (room:Nat) (L:List Cf) (kn:Bool):Prop where
 has:cf0 m P∈L
 all:∀ c∈L,RR P (cf0 m P) c
 shut:kn=true→∀ c∈L,∀ k,k < P.length→∀ c',zsj P c k=some c'→c'∈L
 room:kn=decide (L.length≤room)
theorem zFG (n:Nat):(⟨(zYN n).toArray⟩:ByteArray)++⟨#[48]⟩=⟨(zYN (n+1)).toArray⟩:=by
 show ((⟨(zYN n).toArray⟩:ByteArray)++⟨[48].toArray⟩)=_
 rw [japp]
 congr 2
 unfold zYN
 rw [List.replicate_succ']
theorem z5x {w:World} {base base':Nat} {e:TypeId} {size:Nat} {v:Value} {n:Nat} {xs:List Value} (h:w.ownsRow base e size v n xs) (hb:base'≤base):w.ownsRow base' e size v n xs:=by
 refine ⟨h.1,?_⟩
 rcases h.2 with hn | ⟨g,cap,cur,hv,hbg,rest⟩
 · exact .inl hn
 · exact .inr ⟨g,cap,cur,hv,Nat.le_trans hb hbg,rest⟩
def zB1 (m:List UInt8) (P:List OpV) (room:Nat) (w:World) (e:Ending) (w':World):Prop:=
 ∃ L a c kn,e=.returned (.tuple #[.slice a L.length c,.bool kn])∧w'.ownsRow w.heap.size 82 2 (.slice a L.length c) L.length (zKT L)∧Below w.heap.size w w'∧L.length≤room+2000∧Cfs m P room L kn
set_option maxHeartbeats 8000000 in
set_option maxRecDepth 100000 in
theorem zxq (m:List UInt8) (hm:five m) (oa pa:Option Addr) (oc pc:Nat) (ops P:List OpV) (part:List Nat) (room:Nat) (w:World) (ho:OAt w oa ops) (hp:IAt w pa part) (hP:zrE ops part P) (hl:P.length≤1000) (hol:ops.length≤1000) (hok:∀ o∈P,okO o) (hroom:room≤900000):
 Calls Tryz.prog 59 #[.string ⟨m.toArray⟩,.slice oa ops.length oc,.slice pa part.length pc,.int .i64 (room:Int)] w (zB1 m P room w):=by
 have HPL:Hid _:=hP.1
 have hfst:=fun w=>zpZ m hm w
 have hbeh:=fun c k w ho hp hc hk hst=>zvs m oa pa oc pc ops P part c k w ho hp hP hc hk hl hol hst hok
 rw [hP.1] at hbeh ⊢
 go_enter Tryz.func59,Tryz.ntmps59
 go_wp2_with fail
 go_loop [10,11] (fun d i=>∃ (j:Nat),d=.string ⟨(zYN j).toArray⟩∧i=.int .i64 (j:Int)∧j≤P.length) (fun _ i=>P.length - (intOf i).toNat)
 case atStart=>exact ⟨0,rfl,rfl,by omega⟩
 case round=>
  obtain ⟨j,rfl,rfl,hj⟩:=hrel
  have hzl:(zYN j).length=j:=by simp [zYN]
  by_cases hin:j < P.length
  · have hin':(j:Int) < (P.length:Int):=by omega
    have hwj:IntKind.i64.wrap ((j:Int)+1)=(j:Int)+1:=by go_arith
    have hz:=zFG j
    go_wp2_with fail
    go_round
    case rel=>exact ⟨j+1,by first | rfl | (rw [zFG]),by go_num,by omega⟩
    case measure=>simp [intOf];omega
  · obtain rfl:j=P.length:=by omega
    have hin':¬ (P.length:Int) < (P.length:Int):=by omega
    have hF0:=FI.zero w
    obtain ⟨W0,hW0⟩:∃ W0,w.alloc (.cells Tryz.zeroCells234 234)=W0:=⟨_,rfl⟩
    have hb0:Below w.heap.size w W0:=by rw [←hW0];exact (Below.refl _ _).alloc (Nat.le_refl _) _
    rw [hW0] at hF0
    have hok0:=z7m m P
    have hadd:=fun W cs vL vN L nx ls (hL:L.length≤1000000) (hF:FI w.heap.size W cs vL vN L nx ls) (c:Cf) (hc:okC P c)=>add_any w.heap.size c cs vL vN L nx ls W (hc.few hl).1 (hc.few hl).2 hL hF
    have ha0:=hadd W0 _ _ _ _ _ _ (by simp) hF0 _ hok0
    have HADD:Hid _:=hadd
    have HB0:Hid _:=hb0
    unfold cAg at ha0
    clear hadd hb0 hF0
    rw [show cf0 m P=(zYN P.length,zKM m) from rfl] at ha0
    dsimp only at ha0
    go_wp2_with fail
    refine (hfst _).mono ?_
    rintro e w1 ⟨rfl,rfl⟩
    go_wp2_with fail
    refine ha0.mono ?_
    rintro e w2 ⟨rfl,hb2,hL2⟩
    obtain ⟨cs,vL,vN,nx,ls,hF2⟩:∃ cs vL vN nx ls,FI w.heap.size w2 cs vL vN [cf0 m P] nx ls:=by
     rcases hL2 with ⟨h,_⟩ | h
     · simp at h
     · exact h
    clear hL2 ha0
    have hb2w:Below w.heap.size w w2:=HB0.out.trans hb2
    have HAt:Hid _:=And.intro ho hp
    have HS2:Hid _:=(⟨⟨cs,vL,vN,nx,ls,hF2⟩,hb2w⟩:(∃ cs vL vN nx ls,FI w.heap.size w2 cs vL vN [cf0 m P] nx ls)∧Below w.heap.size w w2)
    clear hb2 hb2w hF2 ho hp hok0
    go_wp2_with fail
    go_loopw [13] (fun s13 wr=>∃ (i:Nat) (L:List Cf),s13=.int .i64 (i:Int)∧i≤L.length∧L.length≤room+1∧Hid (∃ cs vL vN nx ls,FI w.heap.size wr cs vL vN L nx ls)∧Hid (cf0 m P∈L∧(∀ c∈L,RR P (cf0 m P) c)∧Shut P L i)∧Hid (Below w.heap.size w wr)) (fun s13 _=>room+2 - (intOf s13).toNat)
    case atStart=>exact ⟨0,[cf0 m P],rfl,by simp,by simp,HS2.out.1,⟨by simp,fun c hc=>by simp at hc;subst hc;exact .start,fun q c hq=>absurd hq (by omega)⟩,HS2.out.2⟩
    case round=>
     obtain ⟨i,L,rfl,hi,hLr,HF,HL,HB⟩:=hrel
     obtain ⟨cs,vL,vN,nx,ls,hF⟩:=HF.out
     obtain ⟨la,lc,rfl⟩:=zIW hF.rowL
     have t0:wr.cell? ⟨w.heap.size,0,none⟩=some (.slice la L.length lc):=(zBk hF.blk _).trans hF.c0
     by_cases hin:i < L.length
     · have hin':(i:Int) < (L.length:Int):=by omega
       obtain ⟨c,hci⟩:∃ c,L[i]?=some c:=⟨_,List.getElem?_eq_getElem hin⟩
       have hokc:okC P c:=(HL.out.2.1 c (List.mem_of_getElem? hci)).ok hok (z7m m P)
       go_wp2_with fail
       go_loopw [14] (fun s14 wx=>∃ (k:Nat) (L':List Cf),s14=.int .i64 (k:Int)∧k≤P.length∧i < L'.length∧L'.length≤room+1+k∧Hid (∃ cs vL vN nx ls,FI w.heap.size wx cs vL vN L' nx ls)∧Hid (cf0 m P∈L'∧(∀ c∈L',RR P (cf0 m P) c)∧Shut P L' i∧L'[i]?=some c∧ShutK P L' c k)∧Hid (Below w.heap.size w wx)) (fun s14 _=>P.length - (intOf s14).toNat)
       case atStart=>exact ⟨0,L,rfl,by omega,hin,by omega,HF,⟨HL.out.1,HL.out.2.1,HL.out.2.2,hci,fun q hq=>absurd hq (by omega)⟩,HB⟩
       case round=>
        clear t0 hF HF HL HB hci
        obtain ⟨k,L',rfl,hk,hiL,hLk,HF,HL,HB⟩:=hrel
        by_cases hkin:k < P.length
        · have hkin':(k:Int) < (P.length:Int):=by omega
          have hiL':(i:Int) < (L'.length:Int):=by omega
          obtain ⟨cs,vL,vN,nx,ls,hF⟩:=HF.out
          obtain ⟨la,lc,rfl⟩:=zIW hF.rowL
          obtain ⟨gl,rfl⟩:∃ g,la=some ⟨g,0,none⟩:=by
           rcases zzD hF.rowL with ⟨_,e⟩ | ⟨g,cap,e,_⟩
           · omega
           · injection e with e;exact ⟨g,e⟩
          have t0:wr.cell? ⟨w.heap.size,0,none⟩=some (.slice (some ⟨gl,0,none⟩) L'.length lc):=(zBk hF.blk _).trans hF.c0
          obtain ⟨r0,r1⟩:=zyC hF HL.out.2.2.2.1
          have hwk:IntKind.i64.wrap ((k:Int)+1)=(k:Int)+1:=by go_arith
          have hbq:=hbeh c k wr (HAt.out.1.below HB.out) (HAt.out.2.below HB.out) hokc.1 hkin (hokc.few hl).2
          unfold cAg at hbq
          have HFX:Hid _:=hF
          clear hF
          go_wp2_with fail
          refine hbq.mono ?_
          rintro e w3 ⟨hb3,hres⟩
          have hF3:=HFX.out.kept hb3
          have B3:Hid (Below w.heap.size w w3):=HB.out.trans (hb3.mono HB.out.size)
          clear hbq hb3 r0 r1 t0
          rcases hres with ⟨c',hbp,rfl⟩ | ⟨hbn,rfl⟩
          · have hokc':=(zYT hkin hok hokc hbp).1
            obtain ⟨W4,hW4,hb4,hC4⟩:∃ W4,w3.alloc (.cells #[.string ⟨c'.1.toArray⟩,.string ⟨c'.2.toArray⟩] 82)=W4∧Below w3.heap.size w3 W4∧W4.heap[w3.heap.size]?=some (.cells #[.string ⟨c'.1.toArray⟩,.string ⟨c'.2.toArray⟩] 82 (0,0)):=⟨_,rfl,(Below.refl _ _).alloc (Nat.le_refl _) _,ziF _ _ _ rfl⟩
            have d0:W4.cell? ⟨w3.heap.size,0,none⟩=some (.string ⟨c'.1.toArray⟩):=zBk hC4 0
            have d1:W4.cell? ⟨w3.heap.size,1,none⟩=some (.string ⟨c'.2.toArray⟩):=zBk hC4 1
            have B4:Hid (Below w.heap.size w W4):=B3.out.trans (hb4.mono B3.out.size)
            have hF4:=hF3.kept hb4
            have ha:=HADD.out W4 _ _ _ _ _ _ (by omega) hF4 c' hokc'
            have HR:Hid (RR P (cf0 m P) c'):=.step (HL.out.2.1 c (List.mem_of_getElem? HL.out.2.2.2.1)) k hkin hbp
            have HBP:Hid _:=hbp
            unfold cAg at ha
            clear hF3 hF4 hb4 hC4 hbp
            go_wp2_with fail
            refine ha.mono ?_
            rintro e w5 ⟨rfl,hb5,hL5⟩
            have B5:Hid (Below w.heap.size w w5):=B4.out.trans hb5
            have HN:Hid (∃ L'',i < L''.length∧L''.length≤room+1+(k+1)∧(∃ cs vL vN nx ls,FI w.heap.size w5 cs vL vN L'' nx ls)∧cf0 m P∈L''∧(∀ c∈L'',RR P (cf0 m P) c)∧Shut P L'' i∧L''[i]?=some c∧ShutK P L'' c (k+1)):=by
             obtain ⟨l1,l2,l3,l4,l5⟩:=HL.out
             have hsk:∀ M:List Cf,ShutK P M c k→c'∈M→ShutK P M c (k+1):=fun M hs hm q hq x hx=>by
              by_cases e:q=k
              · subst e;rw [HBP.out] at hx;injection hx with hx;subst hx;exact hm
              · exact hs q (by omega) x hx
             rcases hL5 with ⟨h,hf⟩ | hf
             · exact ⟨L',hiL,by omega,hf,l1,l2,l3,l4,hsk L' l5 h⟩
             · exact ⟨L'++[c'],by simp;omega,by simp;omega,hf,by simp [l1],fun x hx=>by
                rcases List.mem_append.1 hx with hx | hx
                · exact l2 x hx
                · rw [List.mem_singleton] at hx;subst hx;exact HR.out,l3.more (by omega) c',by rw [List.getElem?_append_left hiL];exact l4,hsk _ (l5.more c') (by simp)⟩
            clear hb5 hL5 ha d0 d1
            go_wp2_with fail
            go_roundw
            case rel=>
             obtain ⟨L'',n1,n2,n3,n4,n5,n6,n7,n8⟩:=HN.out
             exact ⟨k+1,L'',by go_num,by omega,n1,n2,n3,⟨n4,n5,n6,n7,n8⟩,B5⟩
            case measure=>simp [intOf];omega
          · have hb4:Below w3.heap.size w3 (w3.alloc (.cells #[.string ⟨c.1.toArray⟩,.string ⟨c.2.toArray⟩] 82)):=(Below.refl _ _).alloc (Nat.le_refl _) _
            have B4:Hid _:=B3.out.trans (hb4.mono B3.out.size)
            have HF4:Hid _:=hF3.kept hb4
            have HSK:Hid (ShutK P L' c (k+1)):=fun q hq x hx=>by
             by_cases e:q=k
             · subst e;rw [hbn] at hx;cases hx
             · exact HL.out.2.2.2.2 q (by omega) x hx
            clear hb4 hF3 hbn
            go_wp2_with fail
            go_roundw
            case rel=>exact ⟨k+1,L',by go_num,by omega,hiL,by omega,⟨_,_,_,_,_,HF4.out⟩,⟨HL.out.1,HL.out.2.1,HL.out.2.2.1,HL.out.2.2.2.1,HSK.out⟩,B4⟩
            case measure=>simp [intOf];omega
        · obtain rfl:k=P.length:=by omega
          have hkin':¬ (P.length:Int) < (P.length:Int):=by omega
          obtain ⟨cs,vL,vN,nx,ls,hF⟩:=HF.out
          obtain ⟨la,lc,rfl⟩:=zIW hF.rowL
          have t0:wr.cell? ⟨w.heap.size,0,none⟩=some (.slice la L'.length lc):=(zBk hF.blk _).trans hF.c0
          have hwi:IntKind.i64.wrap ((i:Int)+1)=(i:Int)+1:=by go_arith
          have HFX:Hid _:=hF
          clear hF
          by_cases hrm:room < L'.length
          · have hrm':(room:Int) < (L'.length:Int):=by omega
            go_wp2_with fail
            go_ret2
            exact ⟨L',la,lc,false,rfl,z5x HFX.out.rowL (by omega),HB.out,by omega,HL.out.1,HL.out.2.1,fun h=>(by cases h),by simp;omega⟩
          · have hrm':¬ (room:Int) < (L'.length:Int):=by omega
            go_wp2_with fail
            go_roundw
            case rel=>exact ⟨i+1,L',by go_num,by omega,by omega,HF,⟨HL.out.1,HL.out.2.1,fun q x hq hx k hk c' hb=>by
             by_cases e:q=i
             · subst e
               rw [HL.out.2.2.2.1] at hx
               injection hx with hx
               subst hx
               exact HL.out.2.2.2.2 k hk c' hb
             · exact HL.out.2.2.1 q x (by omega) hx k hk c' hb⟩,HB⟩
            case measure=>simp [intOf];omega
     · obtain rfl:i=L.length:=by omega
       have hin':¬ (L.length:Int) < (L.length:Int):=by omega
       have HFX:Hid _:=hF
       clear hF
       by_cases hrm:L.length≤room
       · have hrm':(L.length:Int)≤(room:Int):=by omega
         go_wp2_with fail
         go_quiet (fail)
         go_wp2_with fail
         go_ret2
         exact ⟨L,la,lc,true,rfl,z5x (zmP HFX.out.rowL (Kept.of_below (S:=[]) (zqh (Below.refl _ _) _)) (by simp)) (by omega),zqh HB.out _,by omega,HL.out.1,HL.out.2.1,fun _ c hc k hk c' hb=>by
          obtain ⟨q,hq⟩:=List.mem_iff_getElem?.1 hc
          exact HL.out.2.2 q c (List.getElem?_eq_some_iff.1 hq).1 hq k hk c' hb,by simp;omega⟩
       · have hrm':¬ (L.length:Int)≤(room:Int):=by omega
         go_wp2_with fail
         go_quiet (fail)
         go_wp2_with fail
         go_ret2
         exact ⟨L,la,lc,false,rfl,z5x (zmP HFX.out.rowL (Kept.of_below (S:=[]) (zqh (Below.refl _ _) _)) (by simp)) (by omega),zqh HB.out _,by omega,HL.out.1,HL.out.2.1,fun h=>(by cases h),by simp;omega⟩
end Go.Proofs.YtbbkihekjdffpaaGreatDoor.jd
