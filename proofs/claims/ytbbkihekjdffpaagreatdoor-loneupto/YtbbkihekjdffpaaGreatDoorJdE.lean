/- Several texts in one. -/
import Derived.Test.YtbbkihekjdffpaaGreatDoorJdC
set_option maxHeartbeats 4000000
set_option maxRecDepth 100000
namespace Go.Proofs.YtbbkihekjdffpaaGreatDoor.jd
open Go.RowKit
open srch (vAg opAg tI OAt)
def IAt (w:World) (oa:Option Addr) (l:List Nat):Prop:=l≠[]→∃ g,oa=some ⟨g,0,none⟩∧g < w.heap.size∧∀ (j x:Nat),l[j]?=some x→w.cell? ⟨g,j,none⟩=some (.int .i64 (x:Int))
theorem IAt.below {w w':World} {oa:Option Addr} {l:List Nat} (h:IAt w oa l) (k:Below w.heap.size w w'):IAt w' oa l:=by
 intro hne
 obtain ⟨g,h1,h2,h3⟩:=h hne
 exact ⟨g,h1,Nat.lt_of_lt_of_le h2 k.size,fun j u hj=>(k.cell (p:=⟨g,j,none⟩) h2).trans (h3 j u hj)⟩
def zrE (ops:List OpV) (part:List Nat) (P:List OpV):Prop:=part.length=P.length∧∀ (i:Nat) (o:OpV),P[i]?=some o→∃ p,part[i]?=some p∧ops[p]?=some o
theorem zQO {w:World} {oa:Option Addr} {ops:List OpV} (h:OAt w oa ops) {p:Nat} {o:OpV} (hp:ops[p]?=some o):∃ g,oa=some ⟨g,0,none⟩∧g < w.heap.size∧p < ops.length∧∀ c u,c < 10→(opvCells o)[c]?=some u→w.cell? ⟨g,p*10+c,none⟩=some u:=by
 obtain ⟨hl,he⟩:=List.getElem?_eq_some_iff.1 hp
 obtain ⟨g,h1,h2,h3⟩:=h (by rintro rfl;simp at hl)
 exact ⟨g,h1,h2,hl,fun c u hc hu=>h3 _ _ ((zvc ops p hl c hc).trans (by rw [he];exact hu))⟩
def z5E (done:List UInt8) (P:List OpV) (k i:Nat):Bool:=done[i]?.getD 0 == 48&&decide (0 < (P[i]?.getD z1u).ret)&&decide ((P[i]?.getD z1u).ret < (P[k]?.getD z1u).call)
def mayP (P:List OpV) (done:List UInt8) (k:Nat):Bool:=!(done[k]?.getD 0 == 49)&&!(List.range P.length).any (z5E done P k)
theorem zBy (oa pa:Option Addr) (oc pc:Nat) (ops P:List OpV) (part:List Nat) (done:List UInt8) (k:Nat) (w:World) (ho:OAt w oa ops) (hp:IAt w pa part) (hP:zrE ops part P) (hd:done.length=P.length) (hk:k < P.length) (hl:P.length≤1000) (_hol:ops.length≤1000):
 Calls Tryz.prog 107 #[.slice oa ops.length oc,.slice pa part.length pc,.string ⟨done.toArray⟩,.int .i64 (k:Int)] w fun e w'=>e=.returned (.bool (mayP P done k))∧Below w.heap.size w w':=by
 obtain ⟨RES,hRES⟩:∃ RES,RES=mayP P done k:=⟨_,rfl⟩
 rw [←hRES]
 have HRES:Hid _:=hRES
 have HPL:Hid _:=hP.1
 rw [hP.1]
 obtain ⟨ok,hok⟩:∃ o,P[k]?=some o:=⟨_,List.getElem?_eq_getElem hk⟩
 obtain ⟨pk,hpk,hopk⟩:=hP.2 k ok hok
 obtain ⟨gp,rfl,hgp,hpc⟩:=hp (by rintro rfl;simp at hpk)
 obtain ⟨go,rfl,hgo,hpkl,hkc⟩:=zQO ho hopk
 have hkd:k < done.length:=by omega
 have hkd':(k:Int) < (done.length:Int):=by omega
 have hsz1:k < (⟨done.toArray⟩:ByteArray).size:=by show k < done.toArray.size;simpa using hkd
 have hby:(⟨done.toArray⟩:ByteArray)[k]'hsz1=done[k]:=by show done.toArray[k]'(by simpa using hkd)=done[k];simp
 have hkq:done[k]?.getD 0=done[k]:=by rw [List.getElem?_eq_getElem hkd];rfl
 clear hRES
 go_enter Tryz.func107,Tryz.ntmps107
 by_cases h49:done[k]=49
 · have hc':(((((⟨done.toArray⟩:ByteArray)[k]'hsz1).toNat:Int) == 49))=true:=by rw [hby,h49];decide
   have hE:Hid (RES=false):=by show _=_;rw [HRES.out,mayP,hkq,h49];rfl
   clear hby
   go_wp2_with fail
   go_ret
   exact ⟨by rw [hE.out];rfl,Below.refl _ _⟩
 · have hc':(((((⟨done.toArray⟩:ByteArray)[k]'hsz1).toNat:Int) == 49))=false:=by
    rw [hby]
    have:done[k].toNat≠49:=fun e=>h49 (UInt8.toNat_inj.1 e)
    simp;omega
   have hE:Hid (RES=!(List.range P.length).any (z5E done P k)):=by
    show _=_
    rw [HRES.out,mayP,hkq,show (done[k] == 49)=false by simpa using h49];rfl
   clear hby
   go_wp2_with fail
   go_loopw [9] (fun i wr=>∃ (j:Nat),i=.int .i64 (j:Int)∧j≤P.length∧Hid (∀ q,q < j→z5E done P k q=false)∧Hid (Below w.heap.size w wr)) (fun i _=>P.length - (intOf i).toNat)
   case atStart=>exact ⟨0,rfl,by omega,fun q hq=>absurd hq (by omega),Below.refl _ _⟩
   case round=>
    obtain ⟨j,rfl,hj,HL,HB⟩:=hrel
    by_cases hin:j < P.length
    · have hinP:(j:Int) < (P.length:Int):=by omega
      have hkP:(k:Int) < (P.length:Int):=by omega
      obtain ⟨y,hy⟩:∃ y,P[j]?=some y:=⟨_,List.getElem?_eq_getElem hin⟩
      obtain ⟨p,hpj,hpo⟩:=hP.2 j y hy
      obtain ⟨go',hgo',_,hpol,hyc⟩:=zQO ho hpo
      obtain rfl:go=go':=by injection hgo' with e;injection e
      have hpi:(p:Int) < (ops.length:Int):=by omega
      have hpki:(pk:Int) < (ops.length:Int):=by omega
      have xj:wr.cell? ⟨gp,j,none⟩=some (.int .i64 (p:Int)):=(HB.out.cell (p:=⟨gp,j,none⟩) hgp).trans (hpc j p hpj)
      have hq:∀ c u,c < 10→(opvCells y)[c]?=some u→wr.cell? ⟨go,p*10+c,none⟩=some u:=fun c u hc hu=>(HB.out.cell (p:=⟨go,p*10+c,none⟩) hgo).trans (hyc c u hc hu)
      have q0:wr.cell? ⟨go,p*10,none⟩=some (.int .i64 y.id):=hq 0 _ (by decide) rfl
      have q1:wr.cell? ⟨go,p*10+1,none⟩=some (.int .i64 y.cl):=hq 1 _ (by decide) rfl
      have q2:wr.cell? ⟨go,p*10+2,none⟩=some (.string ⟨y.name.toArray⟩):=hq 2 _ (by decide) rfl
      have q3:wr.cell? ⟨go,p*10+3,none⟩=some (.string ⟨y.key.toArray⟩):=hq 3 _ (by decide) rfl
      have q4:wr.cell? ⟨go,p*10+4,none⟩=some (.int .i64 y.arg):=hq 4 _ (by decide) rfl
      have q5:wr.cell? ⟨go,p*10+5,none⟩=some (.int .i64 y.exp):=hq 5 _ (by decide) rfl
      have q6:wr.cell? ⟨go,p*10+6,none⟩=some (.int .i64 y.call):=hq 6 _ (by decide) rfl
      have q7:wr.cell? ⟨go,p*10+7,none⟩=some (.int .i64 y.ret):=hq 7 _ (by decide) rfl
      have q8:wr.cell? ⟨go,p*10+8,none⟩=some (.int .i64 y.vk):=hq 8 _ (by decide) rfl
      have q9:wr.cell? ⟨go,p*10+9,none⟩=some (.int .i64 y.vn):=hq 9 _ (by decide) rfl
      obtain ⟨W2,hW2,hb2,hY2⟩:∃ W2,wr.alloc (.cells #[.int .i64 y.id,.int .i64 y.cl,.string ⟨y.name.toArray⟩,.string ⟨y.key.toArray⟩,.int .i64 y.arg,.int .i64 y.exp,.int .i64 y.call,.int .i64 y.ret,.int .i64 y.vk,.int .i64 y.vn] 74)=W2∧Below wr.heap.size wr W2∧W2.heap[wr.heap.size]?=some (.cells #[.int .i64 y.id,.int .i64 y.cl,.string ⟨y.name.toArray⟩,.string ⟨y.key.toArray⟩,.int .i64 y.arg,.int .i64 y.exp,.int .i64 y.call,.int .i64 y.ret,.int .i64 y.vk,.int .i64 y.vn] 74 (0,0)):=⟨_,rfl,(Below.refl _ _).alloc (Nat.le_refl _) _,ziF _ _ _ rfl⟩
      have y7:W2.cell? ⟨wr.heap.size,7,none⟩=some (.int .i64 y.ret):=zBk hY2 7
      have HB2:Hid (Below w.heap.size w W2):=HB.out.trans (hb2.mono HB.out.size)
      have x2:W2.cell? ⟨gp,k,none⟩=some (.int .i64 (pk:Int)):=(HB2.out.cell (p:=⟨gp,k,none⟩) hgp).trans (hpc k pk hpk)
      have x6:W2.cell? ⟨go,pk*10+6,none⟩=some (.int .i64 ok.call):=(HB2.out.cell (p:=⟨go,pk*10+6,none⟩) hgo).trans (hkc 6 _ (by decide) rfl)
      have hdj:j < done.length:=by omega
      have hdj':(j:Int) < (done.length:Int):=by omega
      have hsz2:j < (⟨done.toArray⟩:ByteArray).size:=by show j < done.toArray.size;simpa using hdj
      have hby2:(⟨done.toArray⟩:ByteArray)[j]'hsz2=done[j]:=by show done.toArray[j]'(by simpa using hdj)=done[j];simp
      have hlate:Hid (z5E done P k j=(done[j] == 48&&decide (0 < y.ret)&&decide (y.ret < ok.call))):=by
       show _=_
       unfold z5E
       rw [hy,hok,List.getElem?_eq_getElem hdj];rfl
      have hwj:IntKind.i64.wrap ((j:Int)+1)=(j:Int)+1:=by go_arith
      have HD:Hid _:=And.intro hY2 hb2
      have hb48:((((⟨done.toArray⟩:ByteArray)[j]'hsz2).toNat:Int) == 48)=(done[j] == 48):=by
       rw [hby2,Bool.eq_iff_iff]
       simp only [beq_iff_eq]
       constructor
       · intro e;exact UInt8.toNat_inj.1 (by show done[j].toNat=48;omega)
       · intro e;rw [e];rfl
      clear hY2 hb2 hq hyc hkc hpc hby2
      generalize hdd:(done[j] == 48)=d48 at hb48 hlate
      clear hdd
      have hgo:∀ b:Bool,(d48&&decide (0 < y.ret)&&decide (y.ret < ok.call))=b→Hid (z5E done P k j=b):=fun b h=>by show _=_;rw [hlate.out];exact h
      have HG:Hid _:=hgo
      clear hgo hlate
      by_cases c1:d48=true
      · subst c1
        by_cases c2:0 < y.ret
        · by_cases c3:y.ret < ok.call
          · have hE2:Hid (RES=false):=by
             show _=_
             rw [hE.out,Bool.not_eq_false',List.any_eq_true]
             exact ⟨j,by simpa using hin,HG.out true (by simp [c2,c3])⟩
            clear hE HG
            go_wp2_with fail
            go_quiet (fail)
            go_wp2_with fail
            go_ret
            exact ⟨by rw [hE2.out];rfl,zqh HB2.out _⟩
          · have hN:=HG.out false (by simp [c3])
            have c2':decide (0 < y.ret)=true:=by simpa using c2
            have c3':decide (y.ret < ok.call)=false:=by simpa using c3
            clear HG c2 c3
            go_wp2_with fail
            go_quiet (fail)
            go_wp2_with fail
            go_roundw
            case rel=>exact ⟨j+1,by go_num,by omega,fun q hq=>by
             by_cases e:q=j
             · subst e;exact hN.out
             · exact HL.out q (by omega),zqh HB2.out _⟩
            case measure=>simp [intOf];omega
        · have hN:=HG.out false (by simp [c2])
          have c2':decide (0 < y.ret)=false:=by simpa using c2
          clear HG c2
          go_wp2_with fail
          go_quiet (fail)
          go_wp2_with fail
          go_roundw
          case rel=>exact ⟨j+1,by go_num,by omega,fun q hq=>by
           by_cases e:q=j
           · subst e;exact hN.out
           · exact HL.out q (by omega),zqh HB2.out _⟩
          case measure=>simp [intOf];omega
      · have c1':d48=false:=by simpa using c1
        subst c1'
        have hN:=HG.out false (by simp)
        clear HG
        go_wp2_with fail
        go_quiet (fail)
        go_wp2_with fail
        go_roundw
        case rel=>exact ⟨j+1,by go_num,by omega,fun q hq=>by
         by_cases e:q=j
         · subst e;exact hN.out
         · exact HL.out q (by omega),zqh HB2.out _⟩
        case measure=>simp [intOf];omega
    · have hinP:¬ (j:Int) < (P.length:Int):=by omega
      have hE2:Hid (RES=true):=by
       show _=_
       rw [hE.out,Bool.not_eq_true',List.any_eq_false]
       intro q hq
       rw [HL.out q (by have:=List.mem_range.1 hq;omega)];simp
      clear hE
      go_wp2_with fail
      go_ret
      exact ⟨by rw [hE2.out];rfl,HB.out⟩
theorem jb49 (a c:List UInt8):(⟨a.toArray⟩:ByteArray)++⟨#[49]⟩++⟨c.toArray⟩=⟨(a++[49]++c).toArray⟩:=by
 show ((⟨a.toArray⟩:ByteArray)++⟨[49].toArray⟩++⟨c.toArray⟩)=_
 rw [japp,japp]
abbrev Cf:=List UInt8×List UInt8
def cAg (c:Cf):Value:=.agg #[.string ⟨c.1.toArray⟩,.string ⟨c.2.toArray⟩]
def zsj (P:List OpV) (c:Cf) (k:Nat):Option Cf:=
 if mayP P c.1 k=true then
  (if 0 < (P[k]?.getD z1u).ret∧(ztI c.2 (P[k]?.getD z1u)).2≠((P[k]?.getD z1u).vk,(P[k]?.getD z1u).vn) then none
   else some (c.1.take k++[49]++c.1.drop (k+1),(ztI c.2 (P[k]?.getD z1u)).1))
 else none
def okO (o:OpV):Prop:=names o.name∧(-9223372036854775808≤o.arg∧o.arg≤9223372036854775807)∧(-9223372036854775808≤o.exp∧o.exp≤9223372036854775807)∧(-9223372036854775808≤o.cl∧o.cl≤9223372036854775807)
theorem zne {w':World} {b:Nat} {y:OpV} (h:w'.heap[b]?=some (.cells #[.int .i64 y.id,.int .i64 y.cl,.string ⟨y.name.toArray⟩,.string ⟨y.key.toArray⟩,.int .i64 y.arg,.int .i64 y.exp,.int .i64 y.call,.int .i64 y.ret,.int .i64 y.vk,.int .i64 y.vn] 74 (0,0))):
 w'.cell? ⟨b,0,none⟩=some (.int .i64 y.id)∧w'.cell? ⟨b,1,none⟩=some (.int .i64 y.cl)∧w'.cell? ⟨b,2,none⟩=some (.string ⟨y.name.toArray⟩)∧w'.cell? ⟨b,3,none⟩=some (.string ⟨y.key.toArray⟩)∧w'.cell? ⟨b,4,none⟩=some (.int .i64 y.arg)∧w'.cell? ⟨b,5,none⟩=some (.int .i64 y.exp)∧w'.cell? ⟨b,6,none⟩=some (.int .i64 y.call)∧w'.cell? ⟨b,7,none⟩=some (.int .i64 y.ret)∧w'.cell? ⟨b,8,none⟩=some (.int .i64 y.vk)∧w'.cell? ⟨b,9,none⟩=some (.int .i64 y.vn):=
 ⟨zBk h 0,zBk h 1,zBk h 2,zBk h 3,zBk h 4,zBk h 5,zBk h 6,zBk h 7,zBk h 8,zBk h 9⟩
theorem zDn (tm:Array Value) (W:World) (b:Nat) (v0 v1 x:Value) (h6:tm[10]?.getD undef=.pointer (some ⟨b,0,none⟩)) (h7:tm[11]?.getD undef=x) (hb:W.heap[b]?=some (.cells #[v0,v1] 82 (0,0))):
 (results Tryz.f64 tm).run Tryz.prog W=.ok (.tuple #[.agg #[v0,v1],x]) W:=by
 have c0:W.cell? ⟨b,0,none⟩=some v0:=by rw [zBk hb];rfl
 have c1:W.cell? ⟨b,1,none⟩=some v1:=by rw [zBk hb];rfl
 simp [results,Tryz.results64,go_sem,h6,h7,c0,c1]
theorem cset {W:World} {b:Nat} {x y:Value} (h:W.heap[b]?=some (.cells #[x,y] 82 (0,0))) (v0 v1:Value):((W.setCell ⟨b,0,none⟩ v0).setCell ⟨b,1,none⟩ v1).heap[b]?=some (.cells #[v0,v1] 82 (0,0)):=by
 rw [zFg (zFg h 0 _) 1 _];rfl
theorem zvs (m:List UInt8) (oa pa:Option Addr) (oc pc:Nat) (ops P:List OpV) (part:List Nat) (c:Cf) (k:Nat) (w:World) (ho:OAt w oa ops) (hp:IAt w pa part) (hP:zrE ops part P) (hd:c.1.length=P.length) (hk:k < P.length) (hl:P.length≤1000) (hol:ops.length≤1000) (hst:c.2.length≤8000000) (hok:∀ o∈P,okO o):
 Calls Tryz.prog 64 #[.string ⟨m.toArray⟩,.slice oa ops.length oc,.slice pa part.length pc,cAg c,.int .i64 (k:Int)] w fun e w'=>Below w.heap.size w w'∧((∃ c',zsj P c k=some c'∧e=.returned (.tuple #[cAg c',.bool true]))∨(zsj P c k=none∧e=.returned (.tuple #[cAg c,.bool false]))):=by
 have hmay:=fun w ho hp=>zBy oa pa oc pc ops P part c.1 k w ho hp hP hd hk hl hol
 obtain ⟨ok,hok1⟩:∃ o,P[k]?=some o:=⟨_,List.getElem?_eq_getElem hk⟩
 obtain ⟨pk,hpk,hopk⟩:=hP.2 k ok hok1
 have hBP:zsj P c k=if mayP P c.1 k=true then (if 0 < ok.ret∧(ztI c.2 ok).2≠(ok.vk,ok.vn) then none else some (c.1.take k++[49]++c.1.drop (k+1),(ztI c.2 ok).1)) else none:=by
  unfold zsj;rw [hok1];rfl
 obtain ⟨hn1,hn2,hn3,hn4⟩:=hok ok (List.mem_of_getElem? hok1)
 have hdo:=fun w=>zCs m c.2 ok w hst hn1 hn2 hn3 hn4
 rw [hP.1] at hmay ⊢
 rw [hBP]
 have HAt:Hid _:=And.intro ho hp
 obtain ⟨gp,rfl,hgp,hpc⟩:=hp (by rintro rfl;simp at hpk)
 obtain ⟨go,rfl,hgo,hpkl,hkc⟩:=zQO ho hopk
 generalize mayP P c.1 k=mb at*
 generalize ztI c.2 ok=R at*
 obtain ⟨rs,ra,rb⟩:=R
 dsimp only at hdo hBP ⊢
 obtain ⟨W0,hW0,hb0,hC0,hR0⟩:∃ W0,(w.alloc (.cells #[.string ⟨c.1.toArray⟩,.string ⟨c.2.toArray⟩] 82)).alloc (.cells #[.string ⟨#[]⟩,.string ⟨#[]⟩] 82)=W0∧Below w.heap.size w W0∧W0.heap[w.heap.size]?=some (.cells #[.string ⟨c.1.toArray⟩,.string ⟨c.2.toArray⟩] 82 (0,0))∧W0.heap[w.heap.size+1]?=some (.cells #[.string ⟨#[]⟩,.string ⟨#[]⟩] 82 (0,0)):=by
  refine ⟨_,rfl,((Below.refl _ _).alloc (Nat.le_refl _) _).alloc (by simp) _,?_,ziF _ _ _ (by simp)⟩
  rw [zD1 _ _ _ (by simp)];exact ziF _ _ _ rfl
 have HB:Hid (∀ W:World,Below W0.heap.size W0 W→Below w.heap.size w W∧W.heap[w.heap.size+1]?=some (.cells #[.string ⟨#[]⟩,.string ⟨#[]⟩] 82 (0,0))∧W.cell? ⟨w.heap.size,0,none⟩=some (.string ⟨c.1.toArray⟩)∧W.cell? ⟨w.heap.size,1,none⟩=some (.string ⟨c.2.toArray⟩)∧W.cell? ⟨w.heap.size+1,0,none⟩=some (.string ⟨#[]⟩)∧W.cell? ⟨w.heap.size+1,1,none⟩=some (.string ⟨#[]⟩)∧W.frozen? ⟨w.heap.size+1,0,none⟩=false∧W.frozen? ⟨w.heap.size+1,1,none⟩=false):=fun W hW=>by
  have h:=(hW.block _ (zBq hR0)).trans hR0
  have h':=(hW.block _ (zBq hC0)).trans hC0
  exact ⟨hb0.trans (hW.mono hb0.size),h,zBk h' 0,zBk h' 1,zBk h 0,zBk h 1,zBn h 0,zBn h 1⟩
 have HF:Hid (∀ (W W':World) (x y v0 v1:Value),Below w.heap.size w W→W.heap[w.heap.size+1]?=some (.cells #[x,y] 82 (0,0))→W'=(W.setCell ⟨w.heap.size+1,0,none⟩ v0).setCell ⟨w.heap.size+1,1,none⟩ v1→Below w.heap.size w W'∧W'.heap[w.heap.size+1]?=some (.cells #[v0,v1] 82 (0,0))):=by
  intro W W' x y v0 v1 h1 h2 h3
  subst h3
  exact ⟨(h1.setCell (p:=⟨w.heap.size+1,0,none⟩) (by show w.heap.size≤w.heap.size+1;omega) _).setCell (p:=⟨w.heap.size+1,1,none⟩) (by show w.heap.size≤w.heap.size+1;omega) _,cset h2 _ _⟩
 have c00:W0.cell? ⟨w.heap.size,0,none⟩=some (.string ⟨c.1.toArray⟩):=zBk hC0 0
 have hm0:=hmay W0 (HAt.out.1.below hb0) (HAt.out.2.below hb0)
 have HPC:Hid _:=And.intro hpc hkc
 have HBP:Hid _:=hBP
 obtain ⟨RES,hRES⟩:∃ RES:Option Cf,Hid ((if mb=true then (if 0 < ok.ret∧(ra,rb)≠(ok.vk,ok.vn) then none else some (c.1.take k++[49]++c.1.drop (k+1),rs)) else none)=RES):=⟨_,srch.Hid.mk' rfl⟩
 rw [hRES.out]
 unfold cAg opAg vAg at*
 clear hb0 hC0 hR0 hmay hpc hkc hBP HBP
 go_enter Tryz.func64,Tryz.ntmps64
 go_wp2_with fail
 refine hm0.mono ?_
 rintro e w1 ⟨rfl,hb1⟩
 have B1:Hid _:=hb1
 clear hb1 hm0 c00
 cases mb
 · have hE:Hid (RES=none):=by rw [←hRES.out];exact rfl
   obtain ⟨q1,q2,c0,c1,r0,r1,z0,z1⟩:=HB.out _ B1.out
   have HV:Hid _:=And.intro q1 q2
   clear q1 q2 hdo
   go_wp2_with fail
   obtain ⟨f1,f2⟩:=HF.out _ _ _ _ _ _ HV.out.1 HV.out.2 rfl
   exact bodyPost_ret (zDn _ _ (w.heap.size+1) _ _ _ (by simp) rfl f2) rfl ⟨f1,.inr ⟨hE.out,rfl⟩⟩
 · have B1w:Below w.heap.size w w1:=(HB.out _ B1.out).1
   have hki:(k:Int) < (P.length:Int):=by omega
   have hpki:(pk:Int) < (ops.length:Int):=by omega
   have xk:w1.cell? ⟨gp,k,none⟩=some (.int .i64 (pk:Int)):=(B1w.cell (p:=⟨gp,k,none⟩) hgp).trans (HPC.out.1 k pk hpk)
   have hq:∀ c u,c < 10→(opvCells ok)[c]?=some u→w1.cell? ⟨go,pk*10+c,none⟩=some u:=fun c u hc hu=>(B1w.cell (p:=⟨go,pk*10+c,none⟩) hgo).trans (HPC.out.2 c u hc hu)
   have q0:w1.cell? ⟨go,pk*10,none⟩=some (.int .i64 ok.id):=hq 0 _ (by decide) rfl
   have q1:w1.cell? ⟨go,pk*10+1,none⟩=some (.int .i64 ok.cl):=hq 1 _ (by decide) rfl
   have q2:w1.cell? ⟨go,pk*10+2,none⟩=some (.string ⟨ok.name.toArray⟩):=hq 2 _ (by decide) rfl
   have q3:w1.cell? ⟨go,pk*10+3,none⟩=some (.string ⟨ok.key.toArray⟩):=hq 3 _ (by decide) rfl
   have q4:w1.cell? ⟨go,pk*10+4,none⟩=some (.int .i64 ok.arg):=hq 4 _ (by decide) rfl
   have q5:w1.cell? ⟨go,pk*10+5,none⟩=some (.int .i64 ok.exp):=hq 5 _ (by decide) rfl
   have q6:w1.cell? ⟨go,pk*10+6,none⟩=some (.int .i64 ok.call):=hq 6 _ (by decide) rfl
   have q7:w1.cell? ⟨go,pk*10+7,none⟩=some (.int .i64 ok.ret):=hq 7 _ (by decide) rfl
   have q8:w1.cell? ⟨go,pk*10+8,none⟩=some (.int .i64 ok.vk):=hq 8 _ (by decide) rfl
   have q9:w1.cell? ⟨go,pk*10+9,none⟩=some (.int .i64 ok.vn):=hq 9 _ (by decide) rfl
   obtain ⟨W2,hW2,hb2,hY2⟩:∃ W2,w1.alloc (.cells #[.int .i64 ok.id,.int .i64 ok.cl,.string ⟨ok.name.toArray⟩,.string ⟨ok.key.toArray⟩,.int .i64 ok.arg,.int .i64 ok.exp,.int .i64 ok.call,.int .i64 ok.ret,.int .i64 ok.vk,.int .i64 ok.vn] 74)=W2∧Below w1.heap.size w1 W2∧W2.heap[w1.heap.size]?=some (.cells #[.int .i64 ok.id,.int .i64 ok.cl,.string ⟨ok.name.toArray⟩,.string ⟨ok.key.toArray⟩,.int .i64 ok.arg,.int .i64 ok.exp,.int .i64 ok.call,.int .i64 ok.ret,.int .i64 ok.vk,.int .i64 ok.vn] 74 (0,0)):=⟨_,rfl,(Below.refl _ _).alloc (Nat.le_refl _) _,ziF _ _ _ rfl⟩
   have B2:Hid (Below W0.heap.size W0 W2):=B1.out.trans (hb2.mono B1.out.size)
   obtain ⟨_,_,_,c1,_,_,_,_⟩:=HB.out _ B2.out
   obtain ⟨y0,y1,y2,y3,y4,y5,y6,y7,y8,y9⟩:=zne hY2
   have HY2:Hid _:=hY2
   clear hq hY2 hb2 B1w
   go_wp2_with fail
   refine (hdo _).mono ?_
   rintro e w3 ⟨rfl,hb3⟩
   clear q0 q1 q2 q3 q4 q5 q6 q7 q8 q9 xk c1 y0 y1 y2 y3 y4 y5 y6 y7 y8 y9
   have hka:k < c.1.length:=by omega
   have hex1:(⟨c.1.toArray⟩:ByteArray).extract 0 k=⟨(c.1.take k).toArray⟩:=by
    rw [Lib.extract_eq];simp
   have hex2:(⟨c.1.toArray⟩:ByteArray).extract (k+1) c.1.length=⟨(c.1.drop (k+1)).toArray⟩:=by
    rw [Lib.extract_eq]
    show (⟨(List.take (c.1.length - (k+1)) (List.drop (k+1) c.1)).toArray⟩:ByteArray)=_
    rw [List.take_of_length_le (by simp)]
   have hl1:(c.1.take k).length≤1000:=by rw [List.length_take];omega
   have hl2:(c.1.drop (k+1)).length≤1000:=by simp;omega
   have hwk:IntKind.i64.wrap ((k:Int)+1)=(k:Int)+1:=by go_arith
   have hk0:(0:Int)≤(k:Int):=by omega
   have hk1:(k:Int)≤(c.1.length:Int):=by omega
   have hk2:(k:Int)+1≤(c.1.length:Int):=by omega
   have hk3:(0:Int)≤(k:Int)+1:=by omega
   have hk4:((k:Int)+1).toNat=k+1:=by omega
   generalize c.1.take k=T1 at*
   generalize c.1.drop (k+1)=T2 at*
   have hs1:(9223372036854775807 < T1.length+1)=False:=by simp;omega
   have hs2:(9223372036854775807 < T1.length+1+T2.length)=False:=by simp;omega
   have HDL:Hid _:=hd
   clear hd
   by_cases d1:0 < ok.ret
   · by_cases a1:ra=ok.vk
     · by_cases a2:rb=ok.vn
       · have hE:Hid (RES=some (T1++[49]++T2,rs)):=by show _=_;rw [←hRES.out,if_pos trivial,if_neg (fun h=>h.2 (Prod.ext a1 a2))]
         subst a1 a2
         have B3:Hid (Below W0.heap.size W0 w3):=B2.out.trans (hb3.mono B2.out.size)
         have hY3:=(hb3.block _ (zBq HY2.out)).trans HY2.out
         obtain ⟨W4,hW4,hb4,hV4⟩:∃ W4,w3.alloc (.cells #[.int .i64 ok.vk,.int .i64 ok.vn] 72)=W4∧Below w3.heap.size w3 W4∧W4.heap[w3.heap.size]?=some (.cells #[.int .i64 ok.vk,.int .i64 ok.vn] 72 (0,0)):=⟨_,rfl,(Below.refl _ _).alloc (Nat.le_refl _) _,ziF _ _ _ rfl⟩
         have B4:Hid (Below W0.heap.size W0 W4):=B3.out.trans (hb4.mono B3.out.size)
         have hY4:=(hb4.block _ (zBq hY3)).trans hY3
         have y7:W4.cell? ⟨w1.heap.size,7,none⟩=some (.int .i64 ok.ret):=zBk hY4 7
         have y8:W4.cell? ⟨w1.heap.size,8,none⟩=some (.int .i64 ok.vk):=zBk hY4 8
         have y9:W4.cell? ⟨w1.heap.size,9,none⟩=some (.int .i64 ok.vn):=zBk hY4 9
         have v0:W4.cell? ⟨w3.heap.size,0,none⟩=some (.int .i64 ok.vk):=zBk hV4 0
         have v1:W4.cell? ⟨w3.heap.size,1,none⟩=some (.int .i64 ok.vn):=zBk hV4 1
         obtain ⟨q1,q2,c0,c1,r0,r1,z0,z1⟩:=HB.out _ B4.out
         have HV:Hid _:=And.intro q1 q2
         clear q1 q2 hb3 hb4 hY3 hY4 hV4
         go_wp2_with fail
         go_region_held3 (fun w'=>w'.cell? ⟨w.heap.size,0,none⟩=some (.string ⟨c.1.toArray⟩)) (first | go_keep) (fail)
         go_wp2_with fail
         obtain ⟨f1,f2⟩:=HF.out _ _ _ _ (.string (⟨T1.toArray⟩++⟨#[49]⟩++⟨T2.toArray⟩)) (.string ⟨rs.toArray⟩) HV.out.1 HV.out.2 rfl
         exact bodyPost_ret (zDn _ _ (w.heap.size+1) _ _ _ (by simp) rfl f2) rfl ⟨f1.drew,.inl ⟨_,hE.out,by dsimp only;rw [←jb49];rfl⟩⟩
       · have hE:Hid (RES=none):=by show _=_;rw [←hRES.out,if_pos trivial,if_pos ⟨d1,fun e=>a2 (Prod.ext_iff.1 e).2⟩]
         subst a1
         have B3:Hid (Below W0.heap.size W0 w3):=B2.out.trans (hb3.mono B2.out.size)
         have hY3:=(hb3.block _ (zBq HY2.out)).trans HY2.out
         obtain ⟨W4,hW4,hb4,hV4⟩:∃ W4,w3.alloc (.cells #[.int .i64 ok.vk,.int .i64 rb] 72)=W4∧Below w3.heap.size w3 W4∧W4.heap[w3.heap.size]?=some (.cells #[.int .i64 ok.vk,.int .i64 rb] 72 (0,0)):=⟨_,rfl,(Below.refl _ _).alloc (Nat.le_refl _) _,ziF _ _ _ rfl⟩
         have B4:Hid (Below W0.heap.size W0 W4):=B3.out.trans (hb4.mono B3.out.size)
         have hY4:=(hb4.block _ (zBq hY3)).trans hY3
         have y7:W4.cell? ⟨w1.heap.size,7,none⟩=some (.int .i64 ok.ret):=zBk hY4 7
         have y8:W4.cell? ⟨w1.heap.size,8,none⟩=some (.int .i64 ok.vk):=zBk hY4 8
         have y9:W4.cell? ⟨w1.heap.size,9,none⟩=some (.int .i64 ok.vn):=zBk hY4 9
         have v0:W4.cell? ⟨w3.heap.size,0,none⟩=some (.int .i64 ok.vk):=zBk hV4 0
         have v1:W4.cell? ⟨w3.heap.size,1,none⟩=some (.int .i64 rb):=zBk hV4 1
         obtain ⟨q1,q2,c0,c1,r0,r1,z0,z1⟩:=HB.out _ B4.out
         have HV:Hid _:=And.intro q1 q2
         clear q1 q2 hb3 hb4 hY3 hY4 hV4
         go_wp2_with fail
         obtain ⟨f1,f2⟩:=HF.out _ _ _ _ _ _ HV.out.1 HV.out.2 rfl
         exact bodyPost_ret (zDn _ _ (w.heap.size+1) _ _ _ (by simp) rfl f2) rfl ⟨f1,.inr ⟨hE.out,rfl⟩⟩
     · have hE:Hid (RES=none):=by show _=_;rw [←hRES.out,if_pos trivial,if_pos ⟨d1,fun e=>a1 (Prod.ext_iff.1 e).1⟩]
       have B3:Hid (Below W0.heap.size W0 w3):=B2.out.trans (hb3.mono B2.out.size)
       have hY3:=(hb3.block _ (zBq HY2.out)).trans HY2.out
       obtain ⟨W4,hW4,hb4,hV4⟩:∃ W4,w3.alloc (.cells #[.int .i64 ra,.int .i64 rb] 72)=W4∧Below w3.heap.size w3 W4∧W4.heap[w3.heap.size]?=some (.cells #[.int .i64 ra,.int .i64 rb] 72 (0,0)):=⟨_,rfl,(Below.refl _ _).alloc (Nat.le_refl _) _,ziF _ _ _ rfl⟩
       have B4:Hid (Below W0.heap.size W0 W4):=B3.out.trans (hb4.mono B3.out.size)
       have hY4:=(hb4.block _ (zBq hY3)).trans hY3
       have y7:W4.cell? ⟨w1.heap.size,7,none⟩=some (.int .i64 ok.ret):=zBk hY4 7
       have y8:W4.cell? ⟨w1.heap.size,8,none⟩=some (.int .i64 ok.vk):=zBk hY4 8
       have y9:W4.cell? ⟨w1.heap.size,9,none⟩=some (.int .i64 ok.vn):=zBk hY4 9
       have v0:W4.cell? ⟨w3.heap.size,0,none⟩=some (.int .i64 ra):=zBk hV4 0
       have v1:W4.cell? ⟨w3.heap.size,1,none⟩=some (.int .i64 rb):=zBk hV4 1
       obtain ⟨q1,q2,c0,c1,r0,r1,z0,z1⟩:=HB.out _ B4.out
       have HV:Hid _:=And.intro q1 q2
       clear q1 q2 hb3 hb4 hY3 hY4 hV4
       go_wp2_with fail
       obtain ⟨f1,f2⟩:=HF.out _ _ _ _ _ _ HV.out.1 HV.out.2 rfl
       exact bodyPost_ret (zDn _ _ (w.heap.size+1) _ _ _ (by simp) rfl f2) rfl ⟨f1,.inr ⟨hE.out,rfl⟩⟩
   · have hE:Hid (RES=some (T1++[49]++T2,rs)):=by show _=_;rw [←hRES.out,if_pos trivial,if_neg (fun h=>d1 h.1)]
     have d1':decide (0 < ok.ret)=false:=by simpa using d1
     clear d1
     have B3:Hid (Below W0.heap.size W0 w3):=B2.out.trans (hb3.mono B2.out.size)
     have hY3:=(hb3.block _ (zBq HY2.out)).trans HY2.out
     obtain ⟨W4,hW4,hb4,hV4⟩:∃ W4,w3.alloc (.cells #[.int .i64 ra,.int .i64 rb] 72)=W4∧Below w3.heap.size w3 W4∧W4.heap[w3.heap.size]?=some (.cells #[.int .i64 ra,.int .i64 rb] 72 (0,0)):=⟨_,rfl,(Below.refl _ _).alloc (Nat.le_refl _) _,ziF _ _ _ rfl⟩
     have B4:Hid (Below W0.heap.size W0 W4):=B3.out.trans (hb4.mono B3.out.size)
     have hY4:=(hb4.block _ (zBq hY3)).trans hY3
     have y7:W4.cell? ⟨w1.heap.size,7,none⟩=some (.int .i64 ok.ret):=zBk hY4 7
     have y8:W4.cell? ⟨w1.heap.size,8,none⟩=some (.int .i64 ok.vk):=zBk hY4 8
     have y9:W4.cell? ⟨w1.heap.size,9,none⟩=some (.int .i64 ok.vn):=zBk hY4 9
     have v0:W4.cell? ⟨w3.heap.size,0,none⟩=some (.int .i64 ra):=zBk hV4 0
     have v1:W4.cell? ⟨w3.heap.size,1,none⟩=some (.int .i64 rb):=zBk hV4 1
     obtain ⟨q1,q2,c0,c1,r0,r1,z0,z1⟩:=HB.out _ B4.out
     have HV:Hid _:=And.intro q1 q2
     clear q1 q2 hb3 hb4 hY3 hY4 hV4
     go_wp2_with fail
     go_region_held3 (fun w'=>w'.cell? ⟨w.heap.size,0,none⟩=some (.string ⟨c.1.toArray⟩)) (first | go_keep) (fail)
     go_wp2_with fail
     obtain ⟨f1,f2⟩:=HF.out _ _ _ _ (.string (⟨T1.toArray⟩++⟨#[49]⟩++⟨T2.toArray⟩)) (.string ⟨rs.toArray⟩) HV.out.1 HV.out.2 rfl
     exact bodyPost_ret (zDn _ _ (w.heap.size+1) _ _ _ (by simp) rfl f2) rfl ⟨f1.drew,.inl ⟨_,hE.out,by dsimp only;rw [←jb49];rfl⟩⟩
end Go.Proofs.YtbbkihekjdffpaaGreatDoor.jd
