/- Several texts in one. -/
import Derived.Test.YtbbkihekjdffpaaGreatDoorJdL
set_option maxHeartbeats 8000000
set_option maxRecDepth 100000
namespace Go.Proofs.YtbbkihekjdffpaaGreatDoor.jd
open Go.RowKit
open srch (vAg opAg tI OAt zOu)
def z04 (part:List Nat) (x:Nat):Int:=match part.idxOf? x with
 | some k=>(k:Int)
 | none=> -1
theorem ze4 {part:List Nat} {x k:Nat} (h:part[k]?=some x) (hn:∀ q,q < k→part[q]?≠some x):part.idxOf? x=some k:=by
 induction part generalizing k with
 | nil=>simp at h
 | cons y t ih=>
   cases k with
   | zero=>simp at h;subst h;simp [List.idxOf?_cons]
   | succ k=>
     have hy:y≠x:=fun e=>hn 0 (by omega) (by simp [e])
     rw [List.idxOf?_cons,if_neg (by simpa using hy),ih (by simpa using h) (fun q hq=>by simpa using hn (q+1) (by omega))]
     rfl
theorem zZd {part:List Nat} {x:Nat} (hn:∀ q:Nat,part[q]?≠some x):part.idxOf? x=none:=by
 rw [List.idxOf?_eq_none_iff]
 intro hm
 obtain ⟨q,hq⟩:=List.mem_iff_getElem?.1 hm
 exact hn q hq
theorem zVC (pa:Option Addr) (pc:Nat) (part:List Nat) (x:Nat) (w:World) (hp:IAt w pa part) (hl:part.length≤1000):
 Calls Tryz.prog 37 #[.slice pa part.length pc,.int .i64 (x:Int)] w fun e w'=>e=.returned (.int .i64 (z04 part x))∧Below w.heap.size w w':=by
 obtain ⟨RES,hRES⟩:∃ RES,RES=z04 part x:=⟨_,rfl⟩
 rw [←hRES]
 have HRES:Hid _:=hRES
 clear hRES
 go_enter Tryz.func37,Tryz.ntmps37
 go_wp2_with fail
 go_loopw [5] (fun i wr=>∃ (j:Nat),i=.int .i64 (j:Int)∧j≤part.length∧Hid (∀ q,q < j→part[q]?≠some x)∧Hid (Below w.heap.size w wr)) (fun i _=>part.length - (intOf i).toNat)
 case atStart=>exact ⟨0,rfl,by omega,fun q hq=>absurd hq (by omega),Below.refl _ _⟩
 case round=>
  obtain ⟨j,rfl,hj,HL,HB⟩:=hrel
  by_cases hin:j < part.length
  · have hinP:(j:Int) < (part.length:Int):=by omega
    obtain ⟨y,hy⟩:∃ y,part[j]?=some y:=⟨_,List.getElem?_eq_getElem hin⟩
    obtain ⟨gp,rfl,hgp,hpc⟩:=hp (by rintro rfl;simp at hy)
    have xj:wr.cell? ⟨gp,j,none⟩=some (.int .i64 (y:Int)):=(HB.out.cell (p:=⟨gp,j,none⟩) hgp).trans (hpc j y hy)
    have hwj:IntKind.i64.wrap ((j:Int)+1)=(j:Int)+1:=by go_arith
    by_cases hyx:y=x
    · have hyx':((y:Int) == (x:Int))=true:=by simp [hyx]
      have hE:Hid (RES=(j:Int)):=by show _=_;rw [HRES.out,z04,ze4 (k:=j) (by rw [hy,hyx]) HL.out]
      clear hyx
      go_wp2_with fail
      go_ret
      exact ⟨by rw [hE.out];rfl,HB.out⟩
    · have hyx':((y:Int) == (x:Int))=false:=by rw [beq_eq_false_iff_ne];omega
      have HN:Hid (∀ q,q < j+1→part[q]?≠some x):=fun q hq=>by
       by_cases e:q=j
       · subst e;rw [hy];intro h;injection h with h;exact hyx h
       · exact HL.out q (by omega)
      clear hyx
      go_wp2_with fail
      go_roundw
      case rel=>exact ⟨j+1,by go_num,by omega,HN,HB⟩
      case measure=>simp [intOf];omega
  · have hinP:¬ (j:Int) < (part.length:Int):=by omega
    have hE:Hid (RES= -1):=by
     show _=_
     rw [HRES.out,z04,zZd]
     intro q hq
     exact HL.out q (by have:=(List.getElem?_eq_some_iff.1 hq).1;omega) hq
    go_wp2_with fail
    go_ret
    exact ⟨by rw [hE.out];rfl,HB.out⟩
theorem zKV {w:World} {g p:Nat} {o:OpV} (h:∀ c u,c < 10→(opvCells o)[c]?=some u→w.cell? ⟨g,p*10+c,none⟩=some u):w.cell? ⟨g,p*10,none⟩=some (.int .i64 o.id)∧w.cell? ⟨g,p*10+1,none⟩=some (.int .i64 o.cl)∧w.cell? ⟨g,p*10+2,none⟩=some (.string ⟨o.name.toArray⟩)∧w.cell? ⟨g,p*10+3,none⟩=some (.string ⟨o.key.toArray⟩)∧w.cell? ⟨g,p*10+4,none⟩=some (.int .i64 o.arg)∧w.cell? ⟨g,p*10+5,none⟩=some (.int .i64 o.exp)∧w.cell? ⟨g,p*10+6,none⟩=some (.int .i64 o.call)∧w.cell? ⟨g,p*10+7,none⟩=some (.int .i64 o.ret)∧w.cell? ⟨g,p*10+8,none⟩=some (.int .i64 o.vk)∧w.cell? ⟨g,p*10+9,none⟩=some (.int .i64 o.vn):=
 ⟨h 0 _ (by decide) rfl,h 1 _ (by decide) rfl,h 2 _ (by decide) rfl,h 3 _ (by decide) rfl,h 4 _ (by decide) rfl,h 5 _ (by decide) rfl,h 6 _ (by decide) rfl,h 7 _ (by decide) rfl,h 8 _ (by decide) rfl,h 9 _ (by decide) rfl⟩
def z8Z (Q:List OpV):Prop:=∀ (i k:Nat) (a b:OpV),k < i→Q[i]?=some a→Q[k]?=some b→¬ (0 < a.ret∧a.ret < b.call)
theorem zS4 (oa ra:Option Addr) (oc rc:Nat) (ops Q:List OpV) (order:List Nat) (w:World) (ho:OAt w oa ops) (hr:IAt w ra order) (hQ:zrE ops order Q) (hl:Q.length≤1000) (hok:z8Z Q):
 Calls Tryz.prog 36 #[.slice oa ops.length oc,.slice ra order.length rc] w fun e w'=>e=.returned (.bool true)∧Below w.heap.size w w':=by
 rw [hQ.1]
 have HQ:Hid _:=hQ
 go_enter Tryz.func36,Tryz.ntmps36
 go_wp2_with fail
 go_loopw [5] (fun i wr=>∃ (j:Nat),i=.int .i64 (j:Int)∧j≤Q.length∧Hid (Below w.heap.size w wr)) (fun i _=>Q.length - (intOf i).toNat)
 case atStart=>exact ⟨0,rfl,by omega,Below.refl _ _⟩
 case round=>
  obtain ⟨j,rfl,hj,HB⟩:=hrel
  by_cases hin:j < Q.length
  · have hinP:(j:Int) < (Q.length:Int):=by omega
    have hwj:IntKind.i64.wrap ((j:Int)+1)=(j:Int)+1:=by go_arith
    go_wp2_with fail
    go_loopw [6] (fun i wx=>∃ (k:Nat),i=.int .i64 (k:Int)∧k≤j∧Hid (Below w.heap.size w wx)) (fun i _=>j - (intOf i).toNat)
    case atStart=>exact ⟨0,rfl,by omega,HB⟩
    case round=>
     clear HB
     obtain ⟨k,rfl,hk,HB⟩:=hrel
     by_cases hkin:k < j
     · have hkin':(k:Int) < (j:Int):=by omega
       have hkQ:(k:Int) < (Q.length:Int):=by omega
       have hwk:IntKind.i64.wrap ((k:Int)+1)=(k:Int)+1:=by go_arith
       obtain ⟨a,ha⟩:∃ a,Q[j]?=some a:=⟨_,List.getElem?_eq_getElem hin⟩
       obtain ⟨b,hb⟩:∃ b,Q[k]?=some b:=⟨_,List.getElem?_eq_getElem (by omega)⟩
       have hno:=hok j k a b hkin ha hb
       obtain ⟨pa,hpa,hoa⟩:=hQ.2 j a ha
       obtain ⟨pb,hpb,hob⟩:=hQ.2 k b hb
       obtain ⟨gr,rfl,hgr,hrc⟩:=hr (by rintro rfl;simp at hpa)
       obtain ⟨go,rfl,hgo,hpal,hac⟩:=zQO ho hoa
       obtain ⟨go',hgo',_,hpbl,hbc⟩:=zQO ho hob
       obtain rfl:go=go':=by injection hgo' with e;injection e
       have hpai:(pa:Int) < (ops.length:Int):=by omega
       have hpbi:(pb:Int) < (ops.length:Int):=by omega
       have HRC:Hid (∀ V:World,Below w.heap.size w V→V.cell? ⟨gr,j,none⟩=some (.int .i64 (pa:Int))∧V.cell? ⟨gr,k,none⟩=some (.int .i64 (pb:Int))):=fun V hV=>⟨(hV.cell (p:=⟨gr,j,none⟩) hgr).trans (hrc j pa hpa),(hV.cell (p:=⟨gr,k,none⟩) hgr).trans (hrc k pb hpb)⟩
       have HAC:Hid (∀ V:World,Below w.heap.size w V→∀ c u,c < 10→(opvCells a)[c]?=some u→V.cell? ⟨go,pa*10+c,none⟩=some u):=fun V hV c u hc hu=>(hV.cell (p:=⟨go,pa*10+c,none⟩) hgo).trans (hac c u hc hu)
       have HBC:Hid (∀ V:World,Below w.heap.size w V→∀ c u,c < 10→(opvCells b)[c]?=some u→V.cell? ⟨go,pb*10+c,none⟩=some u):=fun V hV c u hc hu=>(hV.cell (p:=⟨go,pb*10+c,none⟩) hgo).trans (hbc c u hc hu)
       obtain ⟨x1,_⟩:=HRC.out wr HB.out
       obtain ⟨q0,q1,q2,q3,q4,q5,q6,q7,q8,q9⟩:=zKV (HAC.out wr HB.out)
       obtain ⟨W2,hW2,hb2,hY2⟩:∃ W2,wr.alloc (.cells #[.int .i64 a.id,.int .i64 a.cl,.string ⟨a.name.toArray⟩,.string ⟨a.key.toArray⟩,.int .i64 a.arg,.int .i64 a.exp,.int .i64 a.call,.int .i64 a.ret,.int .i64 a.vk,.int .i64 a.vn] 74)=W2∧Below wr.heap.size wr W2∧W2.heap[wr.heap.size]?=some (.cells #[.int .i64 a.id,.int .i64 a.cl,.string ⟨a.name.toArray⟩,.string ⟨a.key.toArray⟩,.int .i64 a.arg,.int .i64 a.exp,.int .i64 a.call,.int .i64 a.ret,.int .i64 a.vk,.int .i64 a.vn] 74 (0,0)):=⟨_,rfl,(Below.refl _ _).alloc (Nat.le_refl _) _,ziF _ _ _ rfl⟩
       have HB2:Hid (Below w.heap.size w W2):=HB.out.trans (hb2.mono HB.out.size)
       obtain ⟨_,x2⟩:=HRC.out W2 HB2.out
       obtain ⟨p0,p1,p2,p3,p4,p5,p6,p7,p8,p9⟩:=zKV (HBC.out W2 HB2.out)
       obtain ⟨W3,hW3,hb3,hY3⟩:∃ W3,W2.alloc (.cells #[.int .i64 b.id,.int .i64 b.cl,.string ⟨b.name.toArray⟩,.string ⟨b.key.toArray⟩,.int .i64 b.arg,.int .i64 b.exp,.int .i64 b.call,.int .i64 b.ret,.int .i64 b.vk,.int .i64 b.vn] 74)=W3∧Below W2.heap.size W2 W3∧W3.heap[W2.heap.size]?=some (.cells #[.int .i64 b.id,.int .i64 b.cl,.string ⟨b.name.toArray⟩,.string ⟨b.key.toArray⟩,.int .i64 b.arg,.int .i64 b.exp,.int .i64 b.call,.int .i64 b.ret,.int .i64 b.vk,.int .i64 b.vn] 74 (0,0)):=⟨_,rfl,(Below.refl _ _).alloc (Nat.le_refl _) _,ziF _ _ _ rfl⟩
       have HB3:Hid (Below w.heap.size w W3):=HB2.out.trans (hb3.mono HB2.out.size)
       have y7:W3.cell? ⟨wr.heap.size,7,none⟩=some (.int .i64 a.ret):=zBk ((hb3.block _ (zBq hY2)).trans hY2) 7
       have y6:W3.cell? ⟨W2.heap.size,6,none⟩=some (.int .i64 b.call):=zBk hY3 6
       clear hY2 hY3 hb2 hb3 hac hbc hrc HRC HAC HBC
       by_cases d1:0 < a.ret
       · have d2:¬ a.ret < b.call:=fun h=>hno ⟨d1,h⟩
         have d1':decide (0 < a.ret)=true:=by simpa using d1
         have d2':decide (a.ret < b.call)=false:=by simpa using d2
         clear hno
         go_wp2_with fail
         go_roundw
         case rel=>exact ⟨k+1,by go_num,by omega,HB3⟩
         case measure=>simp [intOf];omega
       · have d1':decide (0 < a.ret)=false:=by simpa using d1
         clear hno d1
         go_wp2_with fail
         go_roundw
         case rel=>exact ⟨k+1,by go_num,by omega,HB3⟩
         case measure=>simp [intOf];omega
     · obtain rfl:k=j:=by omega
       have hkin':¬ (k:Int) < (k:Int):=by omega
       go_wp2_with fail
       go_roundw
       case rel=>exact ⟨k+1,by go_num,by omega,HB⟩
       case measure=>simp [intOf];omega
  · have hinP:¬ (j:Int) < (Q.length:Int):=by omega
    go_wp2_with fail
    go_ret
    exact ⟨rfl,HB.out⟩
def zam (part:List Nat) (P:List OpV) (x:Nat) (c:Cf):Option Cf:=(part.idxOf? x).bind (fun k=>zsj P c k)
def zdl (part:List Nat) (P:List OpV) (c0:Cf) (l:List Nat):Option Cf:=l.foldl (fun o x=>o.bind (zam part P x)) (some c0)
theorem zDH (part:List Nat) (P:List OpV) (c0:Cf) (l:List Nat) (x:Nat):zdl part P c0 (l++[x])=(zdl part P c0 l).bind (zam part P x):=by simp [zdl]
theorem zI2 (part:List Nat) (P:List OpV) (l:List Nat):l.foldl (fun o x=>o.bind (zam part P x)) none=none:=by
 induction l with
 | nil=>rfl
 | cons x r ih=>exact ih
theorem zYm {part:List Nat} {P:List OpV} {c0 cE:Cf} {l:List Nat} (h:zdl part P c0 l=some cE) (i:Nat):∃ c,zdl part P c0 (l.take i)=some c:=by
 cases e:zdl part P c0 (l.take i) with
 | some c=>exact ⟨c,rfl⟩
 | none=>
   rw [←List.take_append_drop i l] at h
   unfold zdl at h e
   rw [List.foldl_append,e,zI2] at h
   cases h
theorem zOw {part:List Nat} {x k:Nat} (h:part.idxOf? x=some k):k < part.length:=by
 have:=List.idxOf?_eq_some_iff.1 h
 exact this.1
theorem zPe {part:List Nat} {P:List OpV} (hl:part.length=P.length) {c0:Cf} (n:Nat):∀ (l:List Nat),l.length=n→∀ c,zdl part P c0 l=some c→RR P c0 c:=by
 induction n with
 | zero=>intro l hn c h;rw [List.length_eq_zero_iff.1 hn] at h;injection h with h;subst h;exact .start
 | succ n ih=>
   intro l hn c h
   rcases List.eq_nil_or_concat l with rfl | ⟨r,x,rfl⟩
   · simp at hn
   rw [List.concat_eq_append] at hn h
   rw [zDH] at h
   cases e:zdl part P c0 r with
   | none=>rw [e] at h;cases h
   | some d=>
     rw [e] at h
     unfold zam at h
     cases e2:part.idxOf? x with
     | none=>rw [e2] at h;cases h
     | some k=>
       rw [e2] at h
       exact .step (ih r (by simpa using hn) d e) k (by rw [←hl];exact zOw e2) h
theorem zcq (tm:Array Value) (W:World) (b:Nat) (v0 v1 x:Value) (h6:tm[8]?.getD undef=.pointer (some ⟨b,0,none⟩)) (h7:tm[9]?.getD undef=x) (hb:W.heap[b]?=some (.cells #[v0,v1] 82 (0,0))):
 (results Tryz.f38 tm).run Tryz.prog W=.ok (.tuple #[.agg #[v0,v1],x]) W:=by
 have c0:W.cell? ⟨b,0,none⟩=some v0:=by rw [zBk hb];rfl
 have c1:W.cell? ⟨b,1,none⟩=some v1:=by rw [zBk hb];rfl
 simp [results,Tryz.results38,go_sem,h6,h7,c0,c1]
theorem zi5 (m:List UInt8) (hm:five m) (oa pa ra:Option Addr) (oc pc rc:Nat) (ops P:List OpV) (part order:List Nat) (w:World) (ho:OAt w oa ops) (hp:IAt w pa part) (hr:IAt w ra order) (hP:zrE ops part P) (hl:P.length≤1000) (hol:ops.length≤1000) (hrl:order.length≤1000) (hok:∀ o∈P,okO o) (cE:Cf) (hE:zdl part P (cf0 m P) order=some cE):
 Calls Tryz.prog 38 #[.string ⟨m.toArray⟩,.slice oa ops.length oc,.slice pa part.length pc,.slice ra order.length rc] w fun e w'=>e=.returned (.tuple #[cAg cE,.bool true])∧Below w.heap.size w w':=by
 have HPL:Hid _:=hP.1
 have hfst:=fun w=>zpZ m hm w
 have hplc:=fun x w hp=>zVC pa pc part x w hp (by rw [hP.1];exact hl)
 have hbeh:=fun c k w ho hp hc hk hst=>zvs m oa pa oc pc ops P part c k w ho hp hP hc hk hl hol hst hok
 rw [hP.1] at hbeh hplc ⊢
 obtain ⟨W0,hW0,hb0,hR0⟩:∃ W0,w.alloc (.cells #[.string ⟨#[]⟩,.string ⟨#[]⟩] 82)=W0∧Below w.heap.size w W0∧W0.heap[w.heap.size]?=some (.cells #[.string ⟨#[]⟩,.string ⟨#[]⟩] 82 (0,0)):=⟨_,rfl,(Below.refl _ _).alloc (Nat.le_refl _) _,ziF _ _ _ rfl⟩
 obtain ⟨W1,hW1,hb1,hC1⟩:∃ W1,W0.alloc (.cells #[.string ⟨#[]⟩,.string ⟨(zKM m).toArray⟩] 82)=W1∧Below W0.heap.size W0 W1∧W1.heap[W0.heap.size]?=some (.cells #[.string ⟨#[]⟩,.string ⟨(zKM m).toArray⟩] 82 (0,0)):=⟨_,rfl,(Below.refl _ _).alloc (Nat.le_refl _) _,ziF _ _ _ rfl⟩
 have H0:Hid _:=(⟨hb0,hR0,ho,hp,hr,hb1,hC1⟩:_∧_∧_∧_∧_∧_∧_)
 clear hb0 hR0 ho hp hr hb1 hC1
 unfold cAg at*
 go_enter Tryz.func38,Tryz.ntmps38
 go_wp2_with fail
 refine (hfst _).mono ?_
 rintro e w1 ⟨rfl,rfl⟩
 go_wp2_with fail
 go_loopw [11] (fun i wr=>∃ (j:Nat),i=.int .i64 (j:Int)∧j≤P.length∧Hid (wr.heap[w1.heap.size]?=some (.cells #[.string ⟨(zYN j).toArray⟩,.string ⟨(zKM m).toArray⟩] 82 (0,0)))∧Hid (Kept [w1.heap.size] W1 wr)) (fun i _=>P.length - (intOf i).toNat)
 case atStart=>exact ⟨0,rfl,by omega,H0.out.2.2.2.2.2.2,Kept.refl _ _⟩
 case round=>
  obtain ⟨j,rfl,hj,HC,HK⟩:=hrel
  have hzl:(zYN j).length=j:=by simp [zYN]
  by_cases hin:j < P.length
  · have hin':(j:Int) < (P.length:Int):=by omega
    have hwj:IntKind.i64.wrap ((j:Int)+1)=(j:Int)+1:=by go_arith
    have c0:wr.cell? ⟨w1.heap.size,0,none⟩=some (.string ⟨(zYN j).toArray⟩):=zBk HC.out 0
    have z0:=zBn HC.out 0
    have hz:=zFG j
    go_wp2_with fail
    go_roundw
    case rel=>exact ⟨j+1,by go_num,by omega,by show _=_;rw [zFg HC.out 0 _];rfl,HK.out.setCell (p:=⟨w1.heap.size,0,none⟩) (Or.inl (by simp)) _⟩
    case measure=>simp [intOf];omega
  · obtain rfl:j=P.length:=by omega
    have hin':¬ (P.length:Int) < (P.length:Int):=by omega
    have hzw:w.heap.size < w1.heap.size:=zBq H0.out.2.1
    have HW:Hid (∀ V:World,Kept [w1.heap.size] W1 V→Below w.heap.size w V):=fun V hV=>by
     have h1:Below w.heap.size w W1:=H0.out.1.trans (H0.out.2.2.2.2.2.1.mono H0.out.1.size)
     exact h1.trans (hV.below h1.size (by simp;omega))
    have HR1:Hid (∀ V:World,Kept [w1.heap.size] W1 V→V.heap[w.heap.size]?=some (.cells #[.string ⟨#[]⟩,.string ⟨#[]⟩] 82 (0,0))):=fun V hV=>by
     have h1:=(H0.out.2.2.2.2.2.1.block _ hzw).trans H0.out.2.1
     exact (hV.block _ (zBq h1) (by simp;omega)).trans h1
    go_wp2_with fail
    go_loopw [12] (fun i wx=>∃ (j:Nat) (c:Cf),i=.int .i64 (j:Int)∧j≤order.length∧Hid (wx.heap[w1.heap.size]?=some (.cells #[.string ⟨c.1.toArray⟩,.string ⟨c.2.toArray⟩] 82 (0,0)))∧Hid (zdl part P (cf0 m P) (order.take j)=some c)∧Hid (Kept [w1.heap.size] W1 wx)) (fun i _=>order.length - (intOf i).toNat)
    case atStart=>exact ⟨0,cf0 m P,rfl,by omega,HC,rfl,HK⟩
    case round=>
     clear HC HK
     obtain ⟨j,c,rfl,hj,HC,HA,HK⟩:=hrel
     by_cases hin:j < order.length
     · have hin':(j:Int) < (order.length:Int):=by omega
       have hwj:IntKind.i64.wrap ((j:Int)+1)=(j:Int)+1:=by go_arith
       obtain ⟨x,hx⟩:∃ x,order[j]?=some x:=⟨_,List.getElem?_eq_getElem hin⟩
       obtain ⟨gr,rfl,hgr,hrc⟩:=H0.out.2.2.2.2.1 (by rintro rfl;simp at hx)
       have hbw:=HW.out wr HK.out
       have xj:wr.cell? ⟨gr,j,none⟩=some (.int .i64 (x:Int)):=(hbw.cell (p:=⟨gr,j,none⟩) hgr).trans (hrc j x hx)
       obtain ⟨c',hc'⟩:=zYm hE (j+1)
       have ht:order.take (j+1)=order.take j++[x]:=by rw [List.take_add_one,hx];rfl
       have hc2:=hc'
       rw [ht,zDH,HA.out] at hc2
       obtain ⟨k,hk1,hk2⟩:∃ k,part.idxOf? x=some k∧zsj P c k=some c':=by
        unfold zam at hc2
        cases e:part.idxOf? x with
        | none=>rw [e] at hc2;cases hc2
        | some k=>rw [e] at hc2;exact ⟨k,rfl,hc2⟩
       have hkP:k < P.length:=by rw [←HPL.out];exact zOw hk1
       have hokc:okC P c:=(zPe HPL.out _ _ rfl c HA.out).ok hok (z7m m P)
       have hpl:=hplc x wr (H0.out.2.2.2.1.below hbw)
       rw [show z04 part x=(k:Int) by unfold z04;rw [hk1]] at hpl
       have hk0:¬ (k:Int) < 0:=by omega
       have HN:Hid _:=(⟨hc',hk2⟩:_∧_)
       clear hc' hc2 ht hk1 hk2 hrc
       go_wp2_with fail
       refine hpl.mono ?_
       rintro e w3 ⟨rfl,hb3⟩
       have hK3:Kept [w1.heap.size] W1 w3:=HK.out.trans (Kept.of_below (S:=[w1.heap.size]) hb3)
       have hC3:=(hb3.block _ (zBq HC.out)).trans HC.out
       have c0:w3.cell? ⟨w1.heap.size,0,none⟩=some (.string ⟨c.1.toArray⟩):=zBk hC3 0
       have c1:w3.cell? ⟨w1.heap.size,1,none⟩=some (.string ⟨c.2.toArray⟩):=zBk hC3 1
       have hb3w:=HW.out w3 hK3
       have hbq:=hbeh c k w3 (H0.out.2.2.1.below hb3w) (H0.out.2.2.2.1.below hb3w) hokc.1 hkP (hokc.few hl).2
       have H3:Hid _:=(⟨hK3,hC3⟩:_∧_)
       clear hK3 hC3 hb3w hb3 hpl hbw xj
       go_wp2_with fail
       refine hbq.mono ?_
       rintro e w4 ⟨hb4,hres⟩
       obtain rfl:e=.returned (.tuple #[.agg #[.string ⟨c'.1.toArray⟩,.string ⟨c'.2.toArray⟩],.bool true]):=by
        rcases hres with ⟨d,h1,h2⟩ | ⟨h1,_⟩
        · rw [HN.out.2] at h1;injection h1 with h1;subst h1;exact h2
        · rw [HN.out.2] at h1;cases h1
       obtain ⟨W5,hW5,hb5,hT5⟩:∃ W5,w4.alloc (.cells #[.string ⟨c'.1.toArray⟩,.string ⟨c'.2.toArray⟩] 82)=W5∧Below w4.heap.size w4 W5∧W5.heap[w4.heap.size]?=some (.cells #[.string ⟨c'.1.toArray⟩,.string ⟨c'.2.toArray⟩] 82 (0,0)):=⟨_,rfl,(Below.refl _ _).alloc (Nat.le_refl _) _,ziF _ _ _ rfl⟩
       have hb35:Below w3.heap.size w3 W5:=hb4.trans (hb5.mono hb4.size)
       have hK5:Kept [w1.heap.size] W1 W5:=H3.out.1.trans (Kept.of_below (S:=[w1.heap.size]) hb35)
       have hC5:=(hb35.block _ (zBq H3.out.2)).trans H3.out.2
       have d0:W5.cell? ⟨w4.heap.size,0,none⟩=some (.string ⟨c'.1.toArray⟩):=zBk hT5 0
       have d1:W5.cell? ⟨w4.heap.size,1,none⟩=some (.string ⟨c'.2.toArray⟩):=zBk hT5 1
       have e0:W5.cell? ⟨w1.heap.size,0,none⟩=some (.string ⟨c.1.toArray⟩):=zBk hC5 0
       have e1:W5.cell? ⟨w1.heap.size,1,none⟩=some (.string ⟨c.2.toArray⟩):=zBk hC5 1
       have z0:=zBn hC5 0
       have z1:=zBn hC5 1
       have H5:Hid _:=(⟨hK5,hC5⟩:_∧_)
       clear hb4 hres hb5 hT5 hb35 hK5 hC5 hbq c0 c1
       go_wp2_with fail
       go_roundw
       case rel=>exact ⟨j+1,c',by go_num,by omega,cset H5.out.2 _ _,HN.out.1,(H5.out.1.setCell (p:=⟨w1.heap.size,0,none⟩) (Or.inl (by simp)) _).setCell (p:=⟨w1.heap.size,1,none⟩) (Or.inl (by simp)) _⟩
       case measure=>simp [intOf];omega
     · obtain rfl:j=order.length:=by omega
       have hin':¬ (order.length:Int) < (order.length:Int):=by omega
       obtain rfl:c=cE:=by
        have:=HA.out
        rw [List.take_length,hE] at this
        injection this with this
        exact this.symm
       have hR:=HR1.out wr HK.out
       have c0:wr.cell? ⟨w1.heap.size,0,none⟩=some (.string ⟨c.1.toArray⟩):=zBk HC.out 0
       have c1:wr.cell? ⟨w1.heap.size,1,none⟩=some (.string ⟨c.2.toArray⟩):=zBk HC.out 1
       have r0:wr.cell? ⟨w.heap.size,0,none⟩=some (.string ⟨#[]⟩):=zBk hR 0
       have r1:wr.cell? ⟨w.heap.size,1,none⟩=some (.string ⟨#[]⟩):=zBk hR 1
       have z0:=zBn hR 0
       have z1:=zBn hR 1
       have HRR:Hid _:=hR
       clear hR
       go_wp2_with fail
       have f1:=cset HRR.out (.string ⟨c.1.toArray⟩) (.string ⟨c.2.toArray⟩)
       have hbw:=HW.out wr HK.out
       exact bodyPost_ret (zcq _ _ w.heap.size _ _ _ (by simp) rfl f1) rfl ⟨rfl,(hbw.setCell (p:=⟨w.heap.size,0,none⟩) (Nat.le_refl _) _).setCell (p:=⟨w.heap.size,1,none⟩) (Nat.le_refl _) _⟩
end Go.Proofs.YtbbkihekjdffpaaGreatDoor.jd
