/- Several texts in one. -/
import Derived.Test.YtlkidmafomjhgaaGreatDoorKeepS1
namespace Go.Proofs.YtlkidmafomjhgaaGreatDoor.keep
open Go.RowKit
open srch (flt LinP ziT Keeps ahB stDo zqY znu)
def onB (k:Nat) (ops:List OpV) (p:Nat):Bool:=ops.any (fun o=>decide (o.key=keyS k)&&(decide (o.call=(p:Int)+1)||decide (o.ret=(p:Int)+1)))
def onL (k:Nat) (ops:List OpV) (lines:List (List UInt8)):List (List UInt8):=((List.range lines.length).filter (onB k ops)).map (fun p=>lines.getD p [])
def onC (k:Nat) (ops:List OpV) (n:Nat):Nat:=((List.range n).filter (onB k ops)).length
def reN (k:Nat) (ops:List OpV) (x:Int):Int:=if x=0 then 0 else (onC k ops x.toNat:Int)
def reO (k:Nat) (ops:List OpV) (o:OpV):OpV:={ o with call:=reN k ops o.call,ret:=reN k ops o.ret }
theorem TellsG.lines_in {i:Nat} {ops:List OpV} {lines:List (List UInt8)} (h:TellsG i ops lines):∀ o∈ops,1≤o.call∧o.call≤(lines.length:Int)∧0≤o.ret∧o.ret≤(lines.length:Int):=by
 induction h with
 | nil=>simp
 | @call ops lines h k kk id cl arg exp d hk hkk h0 hc ha he harg hexp hid hf ih=>
   intro o ho
   rw [List.length_append,List.length_singleton]
   rcases List.mem_append.1 ho with ho | ho
   · have:=ih o ho;exact ⟨this.1,by omega,this.2.2.1,by omega⟩
   · rw [List.mem_singleton] at ho
     subst ho
     exact ⟨by show 1≤(lines.length:Int)+1;omega,by show (lines.length:Int)+1≤_;omega,by show (0:Int)≤0;omega,by show (0:Int)≤_;omega⟩
 | @ret ops lines h j k o vk vn d hj hr hk hn hv ih=>
   intro x hx
   rw [List.length_append,List.length_singleton]
   rcases List.mem_or_eq_of_mem_set hx with hx | rfl
   · have:=ih x hx;exact ⟨this.1,by omega,this.2.2.1,by omega⟩
   · have:=ih o (List.mem_of_getElem? hj)
     exact ⟨this.1,by show o.call≤_;omega,by show 0≤(lines.length:Int)+1;omega,by show (lines.length:Int)+1≤_;omega⟩
theorem zar {k:Nat} {ops ops1:List OpV} {n m:Nat} (h:∀ p,p < n→onB k ops1 p=onB k ops p) (hm:m≤n):onC k ops1 m=onC k ops m:=by
 unfold onC
 congr 1
 apply List.filter_congr
 intro p hp
 exact h p (by have:=List.mem_range.1 hp;omega)
theorem zJE (k:Nat) (ops:List OpV) (n:Nat):onC k ops (n+1)=onC k ops n+(if onB k ops n=true then 1 else 0):=by
 unfold onC
 rw [List.range_succ,List.filter_append,List.length_append]
 congr 1
 by_cases h:onB k ops n=true <;> simp [h]
theorem zqe {k:Nat} {ops ops1:List OpV} {lines:List (List UInt8)} {l:List UInt8} (h:∀ p,p < lines.length→onB k ops1 p=onB k ops p):onL k ops1 (lines++[l])=onL k ops lines++(if onB k ops1 lines.length=true then [l] else []):=by
 unfold onL
 rw [List.length_append,List.length_singleton,List.range_succ,List.filter_append,List.map_append]
 congr 1
 · rw [List.filter_congr (fun p hp=>h p (List.mem_range.1 hp))]
   apply List.map_congr_left
   intro p hp
   have:=List.mem_range.1 (List.mem_filter.1 hp).1
   rw [List.getD,List.getD,List.getElem?_append_left this]
 · by_cases hb:onB k ops1 lines.length=true
   · rw [if_pos hb]
     simp [hb]
   · rw [if_neg hb];simp [hb]
theorem zmd (k:Nat) (ops:List OpV) (lines:List (List UInt8)):(onL k ops lines).length=onC k ops lines.length:=by unfold onL onC;rw [List.length_map]
theorem z6c {k:Nat} {ops ops1:List OpV} {n:Nat} (h:∀ p,p < n→onB k ops1 p=onB k ops p) (o:OpV) (h1:1≤o.call∧o.call≤(n:Int)∧0≤o.ret∧o.ret≤(n:Int)):reO k ops1 o=reO k ops o:=by
 unfold reO reN
 rw [zar h (by omega),zar h (by omega)]
theorem z3O {k:List UInt8} {x:OpV}:∀ (ops:List OpV) (j:Nat) (o:OpV),ops[j]?=some o→x.key=o.key→(o.key=k→∃ j',(flt k ops)[j']?=some o∧flt k (ops.set j x)=(flt k ops).set j' x)∧(o.key≠k→flt k (ops.set j x)=flt k ops):=by
 intro ops
 induction ops with
 | nil=>intro j o h;simp at h
 | cons a t ih=>
   intro j o hj hx
   cases j with
   | zero=>
     injection hj with hj
     subst hj
     constructor
     · intro hk
       refine ⟨0,?_,?_⟩
       · unfold flt;simp [hk]
       · unfold flt;simp [hk,hx]
     · intro hk
       unfold flt
       simp [hk,hx]
   | succ j=>
     obtain ⟨h1,h2⟩:=ih j o hj hx
     constructor
     · intro hk
       obtain ⟨j',e1,e2⟩:=h1 hk
       by_cases ha:a.key=k
       · refine ⟨j'+1,?_,?_⟩
         · unfold flt at e1 ⊢;simp [ha];exact e1
         · unfold flt at e2 ⊢;simp [ha];exact e2
       · refine ⟨j',?_,?_⟩
         · unfold flt at e1 ⊢;simp [ha];exact e1
         · unfold flt at e2 ⊢;simp [ha];exact e2
     · intro hk
       have e:=h2 hk
       unfold flt at e ⊢
       by_cases ha:a.key=k
       · simp [ha];exact e
       · simp [ha];exact e
theorem zjK (k:Nat) (ops:List OpV) {a b:Nat} (h:a≤b):onC k ops a≤onC k ops b:=by
 induction h with
 | refl=>exact Nat.le_refl _
 | step _ ih=>rw [zJE];omega
theorem zdk {k:Nat} {ops:List OpV} {a b:Nat} (hb:onB k ops b=true) (h:a≤b):onC k ops a < onC k ops (b+1):=by
 have:=zjK k ops h
 rw [zJE,if_pos hb];omega
theorem zPb {k:Nat} {ops:List OpV} {o:OpV} (ho:o∈ops) (hk:o.key=keyS k) {x:Int} (hx:o.call=x∨o.ret=x) (h1:1≤x):onB k ops (x.toNat - 1)=true:=by
 unfold onB
 rw [List.any_eq_true]
 refine ⟨o,ho,?_⟩
 have e:((x.toNat - 1:Nat):Int)+1=x:=by omega
 rw [e]
 simp [hk,hx]
theorem z20 {k:Nat} {ops:List OpV} {o:OpV} (ho:o∈ops) (hk:o.key=keyS k) {x:Int} (hx:o.call=x∨o.ret=x) (h1:1≤x):1≤reN k ops x:=by
 unfold reN
 rw [if_neg (by omega)]
 have:=zdk (zPb ho hk hx h1) (Nat.zero_le _)
 rw [show x.toNat - 1+1=x.toNat by omega] at this
 omega
theorem zI1 {i:Nat} (hkd:zSt i=true) (k:Nat) (hk3:k < 3) {ops:List OpV} {lines:List (List UInt8)} (h:TellsG i ops lines):TellsG i ((flt (keyS k) ops).map (reO k ops)) (onL k ops lines):=by
 induction h with
 | nil=>exact .nil
 | @call ops lines h ko kk id cl arg exp d hk hkk h0 hc ha he harg hexp hid hf ih=>
   have hin:=h.lines_in
   generalize hl:(zdF (zSt i) id cl (opS i ko) arg exp kk d).1=l
   rw [if_pos hkd]
   generalize ho:(⟨id,cl,opS i ko,keyS kk,arg,exp,(lines.length:Int)+1,0,0,0⟩:OpV)=o
   have hoc:o.call=(lines.length:Int)+1:=by rw [←ho]
   have hor:o.ret=0:=by rw [←ho]
   have hok:o.key=keyS kk:=by rw [←ho]
   have hsame:∀ p,p < lines.length→onB k (ops++[o]) p=onB k ops p:=by
    intro p hp
    unfold onB
    rw [List.any_append]
    simp [hoc,hor]
    omega
   have hlast:onB k (ops++[o]) lines.length=decide (kk=k):=by
    unfold onB
    rw [List.any_append]
    have hno:(ops.any fun o=>decide (o.key=keyS k)&&(decide (o.call=(lines.length:Int)+1)||decide (o.ret=(lines.length:Int)+1)))=false:=by
     rw [List.any_eq_false]
     intro x hx
     have:=hin x hx
     simp
     omega
    rw [hno]
    simp [hoc,hok]
    exact ⟨fun e=>zpF hkk hk3 e,fun e=>by rw [e]⟩
   rw [zqe hsame,znu,hlast]
   have hold:(flt (keyS k) ops).map (reO k (ops++[o]))=(flt (keyS k) ops).map (reO k ops):=List.map_congr_left fun x hx=>z6c hsame x (hin x (List.mem_filter.1 hx).1)
   by_cases e:kk=k
   · rw [hok,if_pos (by rw [e]),if_pos (by simpa using e),List.map_append,hold]
     have hnew:=TellsG.call ih ko kk id cl arg exp d hk hkk h0 hc ha he harg hexp (fun x hx=>by
      obtain ⟨y,hy,rfl⟩:=List.mem_map.1 hx
      exact hid y (List.mem_filter.1 hy).1) (fun x hx e'=>by
      obtain ⟨y,hy,rfl⟩:=List.mem_map.1 hx
      have h1:=hf y (List.mem_filter.1 hy).1 e'
      have h2:=hin y (List.mem_filter.1 hy).1
      have h3:=z20 (List.mem_filter.1 hy).1 (by simpa using (List.mem_filter.1 hy).2) (.inr rfl) (show 1≤y.ret by omega)
      show reN k ops y.ret≠0
      omega)
     rw [hl] at hnew
     have eo:reO k (ops++[o]) o=⟨id,cl,opS i ko,if zSt i=true then keyS kk else [],arg,exp,((onL k ops lines).length:Int)+1,0,0,0⟩:=by
      rw [if_pos hkd]
      unfold reO reN
      rw [hoc,hor,if_pos rfl,if_neg (by omega),show ((lines.length:Int)+1).toNat=lines.length+1 by omega,zJE,hlast,zar hsame (Nat.le_refl _),zmd,if_pos (by simpa using e),←ho]
      simp
     show TellsG i (_++[reO k (ops++[o]) o]) _
     rw [eo]
     exact hnew
   · rw [hok,if_neg (fun h=>e (zpF hkk hk3 h)),if_neg (by simpa using e),List.append_nil,hold]
     exact ih
 | @ret ops lines h j ko o vk vn d hj hr hk hn hv ih=>
   have hin:=h.lines_in
   have hjl:=(List.getElem?_eq_some_iff.1 hj).1
   have hio:=hin o (List.mem_of_getElem? hj)
   generalize hl:(zZ7 o.id vk vn d).1=l
   generalize hx:({ o with vk:=vk,vn:=vn,ret:=(lines.length:Int)+1 }:OpV)=x
   have hxc:x.call=o.call:=by rw [←hx]
   have hxr:x.ret=(lines.length:Int)+1:=by rw [←hx]
   have hxk:x.key=o.key:=by rw [←hx]
   have hany:∀ p:Nat,onB k (ops.set j x) p=true↔(onB k ops p=true∨(o.key=keyS k∧(p:Int)=lines.length)):=by
    intro p
    unfold onB
    rw [List.any_eq_true,List.any_eq_true]
    constructor
    · rintro ⟨y,hy,e⟩
      rcases List.mem_or_eq_of_mem_set hy with hy | rfl
      · exact .inl ⟨y,hy,e⟩
      · simp only [Bool.and_eq_true,decide_eq_true_eq,Bool.or_eq_true] at e
        rw [hxc,hxr,hxk] at e
        rcases e.2 with e2 | e2
        · exact .inl ⟨o,List.mem_of_getElem? hj,by simp [e.1,e2]⟩
        · exact .inr ⟨e.1,by omega⟩
    · rintro (⟨y,hy,e⟩ | ⟨e1,e2⟩)
      · obtain ⟨a,ha⟩:=List.mem_iff_getElem?.1 hy
        by_cases ea:a=j
        · subst ea
          rw [hj] at ha
          injection ha with ha
          subst ha
          refine ⟨x,List.mem_of_getElem? (List.getElem?_set_self hjl),?_⟩
          simp only [Bool.and_eq_true,decide_eq_true_eq,Bool.or_eq_true] at e ⊢
          rw [hxc,hxk]
          refine ⟨e.1,e.2.imp id (fun e2=>?_)⟩
          omega
        · exact ⟨y,List.mem_of_getElem? ((List.getElem?_set_ne (fun h=>ea h.symm)).trans ha),e⟩
      · refine ⟨x,List.mem_of_getElem? (List.getElem?_set_self hjl),?_⟩
        simp only [Bool.and_eq_true,decide_eq_true_eq,Bool.or_eq_true]
        exact ⟨by rw [hxk];exact e1,.inr (by rw [hxr];omega)⟩
   have hno:onB k ops lines.length=false:=by
    unfold onB
    rw [List.any_eq_false]
    intro y hy
    have:=hin y hy
    simp
    omega
   have hsame:∀ p,p < lines.length→onB k (ops.set j x) p=onB k ops p:=by
    intro p hp
    rw [Bool.eq_iff_iff,hany p]
    exact ⟨fun h=>h.elim id (fun e=>absurd e.2 (by omega)),.inl⟩
   have hlast:onB k (ops.set j x) lines.length=decide (o.key=keyS k):=by
    rw [Bool.eq_iff_iff,hany,hno]
    simp
   rw [zqe hsame,hlast]
   obtain ⟨s1,s2⟩:=z3O (k:=keyS k) (x:=x) ops j o hj hxk
   have hold:∀ l':List OpV,(∀ y∈l',y∈ops)→l'.map (reO k (ops.set j x))=l'.map (reO k ops):=fun l' hl'=>List.map_congr_left fun y hy=>z6c hsame y (hin y (hl' y hy))
   by_cases e:o.key=keyS k
   · obtain ⟨j',e1,e2⟩:=s1 e
     rw [if_pos (by simpa using e),e2,List.map_set,hold (flt (keyS k) ops) (fun y hy=>(List.mem_filter.1 hy).1)]
     have hnew:=TellsG.ret ih j' ko (reO k ops o) vk vn d (by rw [List.getElem?_map,e1];rfl) (by show reN k ops o.ret=0;unfold reN;rw [if_pos hr]) hk hn hv
     have hl':(zZ7 (reO k ops o).id vk vn d).1=l:=hl
     rw [hl'] at hnew
     have ex:reO k (ops.set j x) x={ reO k ops o with vk:=vk,vn:=vn,ret:=((onL k ops lines).length:Int)+1 }:=by
      have q:reN k (ops.set j x) ((lines.length:Int)+1)=((onL k ops lines).length:Int)+1:=by
       unfold reN
       rw [if_neg (show ¬ (lines.length:Int)+1=0 by omega),show ((lines.length:Int)+1).toNat=lines.length+1 by omega,zJE,hlast,zar hsame (Nat.le_refl _),zmd]
       simp [e]
      have qc:reN k (ops.set j x) o.call=reN k ops o.call:=by unfold reN;rw [zar hsame (by omega)]
      unfold reO
      rw [hxc,hxr,q,qc,←hx]
     rw [ex]
     exact hnew
   · rw [if_neg (by simpa using e),List.append_nil,s2 e,hold (flt (keyS k) ops) (fun y hy=>(List.mem_filter.1 hy).1)]
     exact ih
theorem z8z {i:Nat} (k:Nat) {ops:List OpV} {lines:List (List UInt8)} (h:TellsG i ops lines) {σ:Type} (doit:σ→OpV→σ×Int×Int) (hdo:∀ s o c r,doit s { o with call:=c,ret:=r }=doit s o):Keeps doit (reO k ops) id (flt (keyS k) ops):=by
 have hin:=h.lines_in
 have hu:=h.base.1
 have hm:∀ a∈flt (keyS k) ops,a∈ops∧a.key=keyS k:=fun a ha=>⟨(List.mem_filter.1 ha).1,by simpa using (List.mem_filter.1 ha).2⟩
 have hret:∀ a∈flt (keyS k) ops,(reN k ops a.ret=0↔a.ret=0):=by
  intro a ha
  obtain ⟨h1,h2⟩:=hm a ha
  have h3:=hin a h1
  by_cases hz:a.ret=0
  · rw [hz];exact ⟨fun _=>rfl,fun _=>by unfold reN;rw [if_pos rfl]⟩
  · have:=z20 h1 h2 (.inr rfl) (show 1≤a.ret by omega)
    exact ⟨fun e=>by omega,fun e=>absurd e hz⟩
 refine ⟨fun a ha b hb e=>?_,fun a ha b hb=>?_,fun a ha=>not_congr (hret a ha),fun _ _=>⟨rfl,rfl⟩,fun s a _=>hdo s a _ _⟩
 · have e0:(reO k ops a).id=(reO k ops b).id:=congrArg OpV.id e
   have e1:a.id=b.id:=e0
   obtain ⟨x,hx⟩:=List.mem_iff_getElem?.1 (hm a ha).1
   obtain ⟨y,hy⟩:=List.mem_iff_getElem?.1 (hm b hb).1
   obtain ⟨hxl,hxe⟩:=List.getElem?_eq_some_iff.1 hx
   obtain ⟨hyl,hye⟩:=List.getElem?_eq_some_iff.1 hy
   have:x=y:=by
    refine (List.getElem_inj (h₀:=by simpa using hxl) (h₁:=by simpa using hyl) hu).1 ?_
    rw [List.getElem_map,List.getElem_map,hxe,hye];exact e1
   subst this
   rw [hx] at hy
   injection hy
 · obtain ⟨a1,a2⟩:=hm a ha
   obtain ⟨b1,b2⟩:=hm b hb
   have ia:=hin a a1
   have ib:=hin b b1
   show (!(reN k ops a.ret == 0)&&decide (reN k ops a.ret < reN k ops b.call))=(!(a.ret == 0)&&decide (a.ret < b.call))
   by_cases hz:a.ret=0
   · have:=(hret a ha).2 hz
     rw [this,hz];rfl
   · have hz':¬ reN k ops a.ret=0:=fun e=>hz ((hret a ha).1 e)
     have e1:(reN k ops a.ret == 0)=false:=by simpa using hz'
     have e2:(a.ret == 0)=false:=by simpa using hz
     rw [e1,e2]
     have hiff:reN k ops a.ret < reN k ops b.call↔a.ret < b.call:=by
      unfold reN
      rw [if_neg hz,if_neg (show ¬ b.call=0 by omega)]
      constructor
      · intro hlt
        apply Decidable.byContradiction
        intro hn
        have:=zjK k ops (show b.call.toNat≤a.ret.toNat by omega)
        omega
      · intro hlt
        have:=zdk (zPb b1 b2 (.inl rfl) ib.1) (show a.ret.toNat≤b.call.toNat - 1 by omega)
        rw [show b.call.toNat - 1+1=b.call.toNat by omega] at this
        omega
     rw [Bool.eq_iff_iff]
     simp [hiff]
end Go.Proofs.YtlkidmafomjhgaaGreatDoor.keep
namespace Go.Proofs.YtlkidmafomjhgaaGreatDoor.keep
open Go.RowKit
open srch (flt LinP ziT ahB stDo zqY ordO Judged JudgedOf byKeyP zD5 z4U zPi zMI qKey zl7 zUH z4A zqr zYh zmY LinedM z9L sumL say zoF zXo sOK sIll zkp zAl Legal)
theorem zGF {σ:Type} (doit:σ→OpV→σ×Int×Int) (s0:σ):LinP doit s0 []:=⟨[],⟨List.nodup_nil,by simp,by simp,trivial⟩,by simp⟩
theorem zjk (x y:List UInt8):(decide (x≤y)||decide (y≤x))=true:=by
 rcases List.le_total x y with h | h <;> simp [h]
theorem zvE (x y z:List UInt8) (h1:decide (x≤y)=true) (h2:decide (y≤z)=true):decide (x≤z)=true:=by
 simp at h1 h2 ⊢
 exact List.le_trans h1 h2
theorem z8U {σ:Type} [DecidableEq σ] (doit:σ→OpV→σ×Int×Int) (s0:σ) (K:List Int) (hk:K.length=3) {ops:List OpV} {v:Nat×List UInt8×List (List OpV)} (h:Judged (fun p b r=>srch.Found doit (ordO p) s0 b r) (byKeyP ops) 1000000 [] v) (hK:∀ o∈ops,o.cl∈K) (hn:ops.length≤10) (hd:ops.Nodup) (hl:LinedM ops):
 (v.1=1∧∀ k,LinP doit s0 (flt k ops))∨(v.1=2∧∃ k0,v.2.1=qKey k0∧¬ LinP doit s0 (flt k0 ops)∧∀ k,¬ k0≤k→LinP doit s0 (flt k ops)):=by
 have hf:=z4A K hK (by omega) hd hl
 have hsf:sumL ((byKeyP ops).map (·.2))≤10:=Nat.le_trans (z9L ops) hn
 have h1:=zqr 3 (byKeyP ops)
 have h2:=zYh 3 hsf
 rw [zmY] at h2
 have hv:=zUH doit s0 K h (fun q hq=>⟨(hf q hq).1,(hf q hq).2.2.1,(hf q hq).2.2.2⟩) (by rw [hk];omega)
 have hin:∀ k,flt k ops≠[]→k∈zD5 ops:=fun k hk=>by
  unfold zD5
  rw [List.mem_mergeSort]
  exact (zPi ops k).2 hk
 rcases zl7 doit s0 h (fun q hq=>⟨(hf q hq).1,(hf q hq).2.1⟩) hv with ⟨e,ha,_⟩ | ⟨e,l1,nm,p,l2,o,e1,hl1,hnl,hnm,_⟩
 · refine .inl ⟨e,fun k=>?_⟩
   by_cases he:flt k ops=[]
   · rw [he];exact zGF doit s0
   · exact ha (qKey k,flt k ops) (List.mem_map.2 ⟨k,hin k he,rfl⟩)
 · obtain ⟨a,c,hs,ha,hc⟩:=List.map_eq_append_iff.1 e1
   obtain ⟨k0,c',rfl,hk0,hc'⟩:=List.map_eq_cons_iff.1 hc
   injection hk0 with q1 q2
   refine .inr ⟨e,k0,by rw [hnm,q1],by rw [q2];exact hnl,fun k hlt=>?_⟩
   by_cases he:flt k ops=[]
   · rw [he];exact zGF doit s0
   · have hm:=hin k he
     rw [hs] at hm
     rcases List.mem_append.1 hm with hm | hm
     · exact hl1 (qKey k,flt k ops) (by rw [←ha];exact List.mem_map.2 ⟨k,hm,rfl⟩)
     · have hsort:(zD5 ops).Pairwise (fun x y=>decide (x≤y)=true):=List.pairwise_mergeSort zvE zjk _
       rw [hs,List.pairwise_append] at hsort
       rcases List.mem_cons.1 hm with rfl | hm
       · exact absurd (List.le_refl _) hlt
       · have:=(List.pairwise_cons.1 hsort.2.1).1 k hm
         exact absurd (by simpa using this) hlt
theorem zyq:∀ j k,j < 3→k < 3→j < k→¬ keyS k≤keyS j:=by
 intro j k hj hk h
 obtain rfl | rfl | rfl:j=0∨j=1∨j=2:=by omega
 all_goals
  obtain rfl | rfl | rfl:k=0∨k=1∨k=2:=by omega
  all_goals first | (exfalso;omega) | decide
theorem TellsG.keys {i:Nat} (hkd:zSt i=true) {ops:List OpV} {lines:List (List UInt8)} (h:TellsG i ops lines):∀ o∈ops,∃ k,k < 3∧o.key=keyS k:=by
 induction h with
 | nil=>simp
 | @call ops lines h ko kk id cl arg exp d hk hkk h0 hc ha he harg hexp hid hf ih=>
   intro o ho
   rcases List.mem_append.1 ho with ho | ho
   · exact ih o ho
   · rw [List.mem_singleton] at ho
     subst ho
     exact ⟨kk,hkk,by show (if zSt i=true then keyS kk else [])=_;rw [if_pos hkd]⟩
 | @ret ops lines h j k o vk vn d hj hr hk hn hv ih=>
   intro x hx
   rcases List.mem_or_eq_of_mem_set hx with hx | rfl
   · exact ih x hx
   · exact ih o (List.mem_of_getElem? hj)
theorem zw7 {v:Nat×List UInt8×List (List OpV)} {q:List UInt8} (h:v.1=2) (hq:v.2.1=q):∃ r,say v=[73,76,76,69,71,65,76,32,112,97,114,116,61]++q++[32,108,111,110,103,101,115,116,61]++r:=by
 unfold say
 rw [if_neg (by omega),if_pos h,hq]
 exact ⟨_,List.append_assoc _ _ _⟩
theorem zt1 {σ:Type} [DecidableEq σ] (doit:σ→OpV→σ×Int×Int) (s0:σ) (hdo:∀ s o c r,doit s { o with call:=c,ret:=r }=doit s o) {i:Nat} (hi:i < 5) (hkd:zSt i=true)
 (hjo:∀ ops v,JudgedOf (modS i) ops 1000000 v→Judged (fun p b r=>srch.Found doit (ordO p) s0 b r) (byKeyP ops) 1000000 [] v)
 {ops:List OpV} {lines:List (List UInt8)} (h:TellsG i ops lines) (hl:lines.length≤18) (hn:ops.length≤10) (hcl:∀ o∈ops,o.cl∈[-1,0,1]) {b:Int} (hb:1000000≤b):
 (∀ k,k < 3→∀ a,zkp (modS i) (zhe (onL k ops lines)) b a→(LinP doit s0 (flt (keyS k) ops)∧∃ r,a=sOK++32::r)∨(¬ LinP doit s0 (flt (keyS k) ops)∧∃ r,a=sIll++32::r))∧
 ∀ s,zkp (modS i) (zhe lines) b s→((∀ k,k < 3→LinP doit s0 (flt (keyS k) ops))→∃ r,s=sOK++32::r)∧
  ∀ k,k < 3→¬ LinP doit s0 (flt (keyS k) ops)→(∀ j,j < k→LinP doit s0 (flt (keyS j) ops))→∃ r,s=[73,76,76,69,71,65,76,32,112,97,114,116,61]++qKey (keyS k)++[32,108,111,110,103,101,115,116,61]++r:=by
 have hrun:∀ (ops':List OpV) (lines':List (List UInt8)) (x:List UInt8),TellsG i ops' lines'→lines'.length≤18→ops'.length≤10→(∀ o∈ops',o.cl∈[-1,0,1])→zkp (modS i) (zhe lines') b x→∃ v,x=say v∧((v.1=1∧∀ k,LinP doit s0 (flt k ops'))∨(v.1=2∧∃ k0,v.2.1=qKey k0∧¬ LinP doit s0 (flt k0 ops')∧∀ k,¬ k0≤k→LinP doit s0 (flt k ops'))):=by
  intro ops' lines' x ht h18 h10 hc hr
  obtain ⟨rd1,_⟩:=zGe i hi ht (by omega)
  obtain ⟨n,hd⟩:=zAl rd1
  rcases hr with ⟨k',_⟩ | ⟨_,⟨l,r,e,_⟩ | ⟨ops2,v,e,j,rfl⟩⟩
  · rw [zvT i hi] at k';cases k'
  · rw [rd1] at e;cases e
  · rw [rd1] at e
    injection e with e
    subst e
    rw [show min b 1000000=1000000 by omega] at j
    exact ⟨v,rfl,z8U doit s0 [-1,0,1] rfl (hjo _ _ j) hc h10 hd.nodup hd.lined⟩
 constructor
 · intro k hk a ha
   have ht:=zI1 hkd k hk h
   have hlen:(onL k ops lines).length≤18:=by
    rw [zmd]
    unfold onC
    exact Nat.le_trans (List.length_filter_le _ _) (by rw [List.length_range];exact hl)
   have hmap:=ziT doit (reO k ops) id (flt (keyS k) ops) (z8z k h doit hdo) s0
   have hself:flt (keyS k) ((flt (keyS k) ops).map (reO k ops))=(flt (keyS k) ops).map (reO k ops):=by
    unfold flt
    rw [List.filter_eq_self]
    intro o ho
    obtain ⟨p,hp,rfl⟩:=List.mem_map.1 ho
    exact (List.mem_filter.1 hp).2
   obtain ⟨v,rfl,hv | ⟨h2,k0,q1,q2,q3⟩⟩:=hrun _ _ a ht hlen (by rw [List.length_map];exact Nat.le_trans (List.length_filter_le _ _) hn) (fun o ho=>by
    obtain ⟨p,hp,rfl⟩:=List.mem_map.1 ho
    exact hcl p (List.mem_filter.1 hp).1) ha
   · have:=hv.2 (keyS k)
     rw [hself] at this
     exact .inl ⟨hmap.1 this,zoF hv.1⟩
   · refine .inr ⟨fun hL=>q2 ?_,zXo h2⟩
     by_cases he:k0=keyS k
     · rw [he,hself];exact hmap.2 hL
     · have:flt k0 ((flt (keyS k) ops).map (reO k ops))=[]:=by
        unfold flt
        rw [List.filter_eq_nil_iff]
        intro o ho
        obtain ⟨p,hp,rfl⟩:=List.mem_map.1 ho
        have h1:p.key=keyS k:=by simpa using (List.mem_filter.1 hp).2
        show ¬ decide (p.key=k0)=true
        rw [h1]
        simpa using fun e=>he e.symm
       rw [this];exact zGF doit s0
 · intro s hs
   obtain ⟨v,rfl,hv | ⟨h2,k0,q1,q2,q3⟩⟩:=hrun _ _ s h hl hn hcl hs
   · exact ⟨fun _=>zoF hv.1,fun k _ hno _=>absurd (hv.2 _) hno⟩
   · have hex:∃ k,k < 3∧k0=keyS k:=by
      have hne:flt k0 ops≠[]:=fun e=>q2 (by rw [e];exact zGF doit s0)
      obtain ⟨o,ho⟩:=List.exists_mem_of_ne_nil _ hne
      obtain ⟨k,hk,e⟩:=h.keys hkd o (List.mem_filter.1 ho).1
      exact ⟨k,hk,by rw [←e];exact (by simpa using (List.mem_filter.1 ho).2:o.key=k0).symm⟩
     obtain ⟨k,hk,rfl⟩:=hex
     refine ⟨fun hall=>absurd (hall k hk) q2,fun j hj hno hlt=>?_⟩
     have ej:j=k:=by
      rcases Nat.lt_trichotomy j k with hjk | hjk | hjk
      · exact absurd (q3 (keyS j) (zyq j k hj hk hjk)) hno
      · exact hjk
      · exact absurd (hlt k hjk) q2
     subst ej
     exact zw7 h2 q1
end Go.Proofs.YtlkidmafomjhgaaGreatDoor.keep
