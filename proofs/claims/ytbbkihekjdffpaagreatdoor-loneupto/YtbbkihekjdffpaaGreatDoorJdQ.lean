/- Several texts in one. -/
import Derived.Test.YtbbkihekjdffpaaGreatDoorJdN
namespace Go.Proofs.YtbbkihekjdffpaaGreatDoor.jd
open Go.RowKit
open srch (vAg opAg tI OAt zOu idsT)
theorem zMo (a b:List Nat):∀ n:Int,zlt n (a++b)=(zlt n a).bind (fun x=>zlt x b):=by
 induction a with
 | nil=>intro n;rfl
 | cons c t ih=>
   intro n
   simp only [List.cons_append,zlt]
   split
   · rfl
   · split
     · rfl
     · exact ih _
theorem zDc (m:Nat):Lib.decDigits m=if m < 10 then [UInt8.ofNat (48+m)] else Lib.decDigits (m / 10)++[UInt8.ofNat (48+m % 10)]:=by
 rw [Lib.decDigits]
 split <;> rfl
theorem zfI (a b:List UInt8):nats (a++b)=nats a++nats b:=by simp [nats]
theorem zNL (z:Nat) (h:z < 10):nats [UInt8.ofNat (48+z)]=[48+z]:=by unfold nats;simp;omega
theorem zyb (m:Nat):m≤9223372036854775808→zlt 0 (nats (Lib.decDigits m))=some (-(m:Int)):=by
 induction m using Nat.strongRecOn with
 | ind m ih=>
   intro hm
   rw [zDc]
   by_cases h:m < 10
   · rw [if_pos h,zNL m h]
     simp only [zlt]
     rw [if_neg (by omega),if_neg (by
      have e:(-9223372036854775808+(((48+m:Nat):Int) - 48)).tdiv 10= -((9223372036854775808 - (m:Int)) / 10):=by
       rw [show -9223372036854775808+(((48+m:Nat):Int) - 48)= -(9223372036854775808 - (m:Int)) by omega,Int.neg_tdiv,Int.tdiv_eq_ediv_of_nonneg (by omega)]
      rw [e];omega)]
     congr 1;omega
   · rw [if_neg h,zfI,zMo,ih (m / 10) (by omega) (by omega),zNL _ (Nat.mod_lt _ (by omega))]
     simp only [Option.bind_some,zlt]
     rw [if_neg (by omega),if_neg (by
      have e:(-9223372036854775808+(((48+m % 10:Nat):Int) - 48)).tdiv 10= -((9223372036854775808 - ((m % 10:Nat):Int)) / 10):=by
       rw [show -9223372036854775808+(((48+m % 10:Nat):Int) - 48)= -(9223372036854775808 - ((m % 10:Nat):Int)) by omega,Int.neg_tdiv,Int.tdiv_eq_ediv_of_nonneg (by omega)]
      rw [e];omega)]
     congr 1;omega
theorem zot (m:Nat):Lib.decDigits m≠[]∧(m≠0→(nats (Lib.decDigits m)).headD 0≠48)∧(nats (Lib.decDigits m)).headD 0≠45∧∀ c∈Lib.decDigits m,c≠44:=by
 induction m using Nat.strongRecOn with
 | ind m ih=>
   rw [zDc]
   by_cases h:m < 10
   · rw [if_pos h,zNL m h]
     refine ⟨by simp,fun h0=>by show 48+m≠48;omega,by show 48+m≠45;omega,fun c hc e=>?_⟩
     simp at hc
     subst hc
     have:=congrArg UInt8.toNat e
     simp at this
     omega
   · rw [if_neg h]
     obtain ⟨i1,i2,i3,i4⟩:=ih (m / 10) (by omega)
     have hd:∀ d,(nats (Lib.decDigits (m / 10)++[UInt8.ofNat (48+m % 10)])).headD d=(nats (Lib.decDigits (m / 10))).headD d:=by
      intro d
      rw [zfI]
      cases e:nats (Lib.decDigits (m / 10)) with
      | nil=>exact absurd (by simpa [nats] using e) i1
      | cons x t=>rfl
     refine ⟨by simp,fun h0=>by rw [hd];exact i2 (by omega),by rw [hd];exact i3,fun c hc e=>?_⟩
     rcases List.mem_append.1 hc with hc | hc
     · exact i4 c hc e
     · simp at hc
       subst hc
       have:=congrArg UInt8.toNat e
       simp at this
       omega
theorem zTn (l:List UInt8):(nats l).length=l.length:=by simp [nats]
theorem zCf (m:Nat) (hm:m≤9223372036854775808):¬ ((nats (Lib.decDigits m)).length < 1∨19 < (nats (Lib.decDigits m)).length∨(1 < (nats (Lib.decDigits m)).length∧(nats (Lib.decDigits m)).headD 0=48)):=by
 obtain ⟨h1,h2,h3,_⟩:=zot m
 have hl:=z8n m hm
 rw [zTn]
 rintro (h | h | ⟨h,h'⟩)
 · have:(Lib.decDigits m).length≠0:=by simpa using h1
   omega
 · omega
 · by_cases h0:m=0
   · subst h0;rw [zDc] at h;simp at h
   · exact h2 h0 h'
theorem zxM (m:Nat) (hm:m≤9223372036854775808):z8T true (nats (Lib.decDigits m))=(-(m:Int),true):=by
 unfold z8T
 rw [if_neg (zCf m hm),zyb m hm]
 rfl
theorem z4k (m:Nat) (hm:m < 9223372036854775808):z8T false (nats (Lib.decDigits m))=((m:Int),true):=by
 unfold z8T
 rw [if_neg (zCf m (by omega)),zyb m (by omega)]
 simp only [Bool.false_eq_true,if_false]
 rw [if_neg (by omega),decide_eq_true (by omega),Int.neg_neg]
theorem zmn (n:Int) (h0: -9223372036854775808≤n) (h1:n≤9223372036854775807):z7y (Lib.itoa n)=(n,true):=by
 have hw:zyu (nats (Lib.itoa n))=(n,true):=by
  unfold Lib.itoa
  by_cases hn:n < 0
  · rw [if_pos hn]
    have e:nats (45::Lib.decDigits n.natAbs)=45::nats (Lib.decDigits n.natAbs):=rfl
    rw [e]
    unfold zyu
    rw [if_pos (show (45::nats (Lib.decDigits n.natAbs)).headD 0=45 from rfl),List.tail_cons,zxM _ (by omega),show -((n.natAbs:Nat):Int)=n by omega]
  · rw [if_neg hn]
    unfold zyu
    rw [if_neg (zot _).2.2.1,z4k _ (by omega),show ((n.toNat:Nat):Int)=n by omega]
 unfold z7y
 rw [hw]
 simp
theorem zs4 (n:Int):Lib.itoa n≠[]∧∀ c∈Lib.itoa n,c≠44:=by
 unfold Lib.itoa
 split
 · refine ⟨by simp,fun c hc=>?_⟩
   rcases List.mem_cons.1 hc with rfl | hc
   · decide
   · exact (zot _).2.2.2 c hc
 · exact ⟨(zot _).1,(zot _).2.2.2⟩
theorem zu8 (a t:List UInt8) (h:∀ c∈a,c≠44):zN3 (a++44::t)=(a,t):=by
 induction a with
 | nil=>simp [zN3]
 | cons c r ih=>rw [List.cons_append,zN3,if_neg (h c (by simp)),ih (fun x hx=>h x (by simp [hx]))]
theorem zFB (o:OpV) (r:List OpV):idsT (o::r)=if r=[] then Lib.itoa o.id else Lib.itoa o.id++44::idsT r:=by
 unfold idsT Lib.join
 cases r with
 | nil=>simp [List.intercalate]
 | cons p t=>rw [if_neg (by simp)];simp [List.intercalate]
theorem zA4 (o:OpV) (r:List OpV):zN3 (idsT (o::r))=(Lib.itoa o.id,idsT r):=by
 rw [zFB]
 split
 · rename_i h
   subst h
   rw [zPM _ (zs4 _).2]
   simp [idsT,Lib.join,List.intercalate]
 · exact zu8 _ _ (zs4 _).2
theorem zA3 (o:OpV) (r:List OpV):idsT (o::r)≠[]:=by
 rw [zFB]
 have:=(zs4 o.id).1
 split <;> simp [this]
theorem zhq (l:List OpV):∀ (h:idsT l≠[]),(idsT l).getLast h≠44:=by
 induction l with
 | nil=>intro h;exact absurd (by simp [idsT,Lib.join,List.intercalate]) h
 | cons o r ih=>
   intro h
   have e:=zFB o r
   by_cases hr:r=[]
   · rw [if_pos hr] at e
     have:=(zs4 o.id).2 ((idsT (o::r)).getLast h) (by rw [←e];exact List.getLast_mem h)
     exact this
   · rw [if_neg hr] at e
     have hne:idsT r≠[]:=by cases r with
      | nil=>exact absurd rfl hr
      | cons p t=>exact zA3 p t
     have e2:(idsT (o::r)).getLast h=(idsT r).getLast hne:=by
      have h3:(Lib.itoa o.id++44::idsT r)≠[]:=by simp
      rw [show (idsT (o::r)).getLast h=(Lib.itoa o.id++44::idsT r).getLast h3 from by congr 1]
      rw [List.getLast_append_of_ne_nil h3 (List.cons_ne_nil _ _),List.getLast_cons hne]
     rw [e2]
     exact ih hne
theorem zXE (l:List OpV) (h:∀ o∈l,-9223372036854775808≤o.id∧o.id≤9223372036854775807):(idsT l).length≤21*l.length:=by
 induction l with
 | nil=>simp [idsT,Lib.join,List.intercalate]
 | cons o r ih=>
   have h1:=ih (fun x hx=>h x (by simp [hx]))
   have h2:=zCU o.id (h o (by simp)).1 (h o (by simp)).2
   rw [zFB]
   split <;> simp <;> omega
def wf64 (n:Int):Prop:= -9223372036854775808≤n∧n≤9223372036854775807
theorem z99 {w:World} {base g cap:Nat} {l:List Nat} (h:w.ownsRow base 3 1 (.slice (some ⟨g,0,none⟩) l.length cap) l.length (zea l)) {i x:Nat} (hi:l[i]?=some x):w.cell? ⟨g,i,none⟩=some (.int .i64 (x:Int)):=by
 have a:=h.cells (g:=g) rfl i (.int .i64 (x:Int)) (by unfold zea;rw [List.getElem?_map,hi];rfl)
 rw [Addr.add_lit,Nat.zero_add] at a
 exact a
def zpr (pl:List Nat) (w:World) (e:Ending) (w':World):Prop:=
 ∃ a c,e=.returned (.tuple #[.slice a pl.length c,.bool true])∧w'.ownsRow w.heap.size 3 1 (.slice a pl.length c) pl.length (zea pl)∧Below w.heap.size w w'
set_option maxHeartbeats 8000000 in
set_option maxRecDepth 100000 in
theorem ids_any (oa:Option Addr) (oc:Nat) (ops Q:List OpV) (pl:List Nat) (w:World) (ho:OAt w oa ops) (hQ:zrE ops pl Q) (hnd:pl.Nodup) (hol:ops.length≤1000) (hQl:Q.length≤1000) (hid:∀ o∈ops,wf64 o.id) (huq:∀ (i j:Nat) (o o':OpV),ops[i]?=some o→ops[j]?=some o'→o.id=o'.id→i=j):
 Calls Tryz.prog 35 #[.slice oa ops.length oc,.string ⟨(idsT Q).toArray⟩] w (zpr pl w):=by
 go_enter Tryz.func35,Tryz.ntmps35
 go_wp2_with fail
 go_loopw [1,6] (fun s1 s6 wr=>∃ (j:Nat) (a:Option Addr) (c:Nat),s1=.string ⟨(idsT (Q.drop j)).toArray⟩∧s6=.slice a j c∧j≤Q.length∧Hid (wr.ownsRow w.heap.size 3 1 (.slice a j c) j (zea (pl.take j)))∧Hid (Below w.heap.size w wr)) (fun _ s6 _=>Q.length - (match s6 with | .slice _ n _=>n | _=>0))
 case atStart=>exact ⟨0,none,0,rfl,rfl,by omega,World.ownsRow_nil _ _ _ _,Below.refl _ _⟩
 case round=>
  obtain ⟨j,a,c,rfl,rfl,hj,HR,HB⟩:=hrel
  have hpll:=hQ.1
  by_cases hin:j < Q.length
  · obtain ⟨o,ho1⟩:∃ o,Q[j]?=some o:=⟨_,List.getElem?_eq_getElem hin⟩
    obtain ⟨p,hp1,hp2⟩:=hQ.2 j o ho1
    obtain ⟨go,rfl,hgo,hpl,hoc⟩:=zQO ho hp2
    have hido:=hid o (List.mem_of_getElem? hp2)
    have hdrop:Q.drop j=o::Q.drop (j+1):=by rw [List.drop_eq_getElem_cons hin];congr 1;exact (List.getElem?_eq_some_iff.1 ho1).2
    have hidQ:∀ x∈Q,wf64 x.id:=fun x hx=>by
     obtain ⟨q,hq⟩:=List.mem_iff_getElem?.1 hx
     obtain ⟨p',_,h2⟩:=hQ.2 q x hq
     exact hid x (List.mem_of_getElem? h2)
    have hsl:(idsT (Q.drop j)).length≤21000:=by
     have h1:=zXE (Q.drop j) (fun x hx=>hidQ x (List.mem_of_mem_drop hx))
     have h2:(Q.drop j).length≤1000:=by simp;omega
     omega
    have hhd:=zA4 o (Q.drop (j+1))
    have hne:=zA3 o (Q.drop (j+1))
    have hlast:=zhq (o::Q.drop (j+1)) hne
    rw [hdrop] at hsl ⊢
    have hxa:=zmn o.id hido.1 hido.2
    have hil:=zCU o.id hido.1 hido.2
    generalize idsT (o::Q.drop (j+1))=s at*
    have hse:s.isEmpty=false:=by simpa using hne
    have hspos:0 < s.length:=List.length_pos_iff.2 hne
    obtain ⟨q1,hq1⟩:∃ q1,s.length=q1+1:=⟨s.length - 1,by omega⟩
    have hwq:IntKind.i64.wrap ((s.length:Int) - 1)=(q1:Int):=by rw [j64 (by omega) (by omega)];omega
    have hql:(q1:Int) < (s.length:Int):=by omega
    have hsz1:q1 < (⟨s.toArray⟩:ByteArray).size:=by show q1 < s.toArray.size;simp;omega
    have hby:((((⟨s.toArray⟩:ByteArray)[q1]'hsz1).toNat:Int) == 44)=false:=by
     have e1:(⟨s.toArray⟩:ByteArray)[q1]'hsz1=s[q1]'(by omega):=by show s.toArray[q1]'(by simp;omega)=_;simp
     have e2:s.getLast hne=s[q1]'(by omega):=by rw [List.getLast_eq_getElem];congr 1;omega
     rw [e1]
     have:(s[q1]'(by omega)).toNat≠44:=fun e=>hlast (by rw [e2];exact UInt8.toNat_inj.1 e)
     simp;omega
    have hH:=zS3 s wr (by omega)
    rw [hhd] at hH
    have hX:=fun W=>zku (Lib.itoa o.id) W (by omega)
    rw [hxa] at hX
    dsimp only at hX hH
    have HQ1:Hid _:=hq1
    clear hq1 hne hlast hhd hxa hil hspos
    generalize Lib.itoa o.id=sa at*
    go_wp2_with fail
    refine hH.mono ?_
    rintro e w1 ⟨rfl,hb1⟩
    clear hH
    go_wp2_with fail
    refine (hX _).mono ?_
    rintro e w2 ⟨rfl,hb2⟩
    have HB2:Hid (Below wr.heap.size wr w2):=hb1.trans (hb2.mono hb1.size)
    clear hX hb1 hb2
    have HBw:Hid (Below w.heap.size w w2):=HB.out.trans (HB2.out.mono HB.out.size)
    have HR2:Hid (w2.ownsRow w.heap.size 3 1 (.slice a j c) j (zea (pl.take j))):=zmP HR.out (Kept.of_below (S:=[]) HB2.out) (by simp)
    have hj1:j < pl.length:=by omega
    clear HB HR HB2
    go_wp2_with fail
    go_loop [11,12] (fun s11 s12=>∃ (i:Nat) (z:Int),s11=.int .i64 z∧s12=.int .i64 (i:Int)∧i≤ops.length∧Hid (z=if p < i then (p:Int) else -1)) (fun _ s12=>ops.length - (intOf s12).toNat)
    case atStart=>exact ⟨0,-1,rfl,rfl,by omega,by exact rfl⟩
    case round=>
     obtain ⟨i,z,rfl,rfl,hi,HZ⟩:=hrel
     by_cases hio:i < ops.length
     · have hio':(i:Int) < (ops.length:Int):=by omega
       have hwi:IntKind.i64.wrap ((i:Int)+1)=(i:Int)+1:=by go_arith
       obtain ⟨x,hx⟩:∃ x,ops[i]?=some x:=⟨_,List.getElem?_eq_getElem hio⟩
       obtain ⟨go',hgo',_,_,hxc⟩:=zQO ho hx
       obtain rfl:go=go':=by injection hgo' with e;injection e
       have x0:w2.cell? ⟨go,i*10,none⟩=some (.int .i64 x.id):=(HBw.out.cell (p:=⟨go,i*10,none⟩) hgo).trans (hxc 0 _ (by decide) rfl)
       clear hxc
       by_cases hxe:x.id=o.id
       · have HIP:Hid (i=p):=huq i p x o hx hp2 hxe
         have hxe':(x.id == o.id)=true:=by simpa using hxe
         clear hxe
         go_wp2_with fail
         go_round
         case rel=>exact ⟨i+1,(i:Int),rfl,by go_num,by omega,by show (i:Int)=_;rw [if_pos (by have:=HIP.out;omega),HIP.out]⟩
         case measure=>simp [intOf];omega
       · have hip:i≠p:=fun e=>hxe (by subst e;rw [hp2] at hx;injection hx with hx;rw [hx])
         have hxe':(x.id == o.id)=false:=by simpa using hxe
         clear hxe
         go_wp2_with fail
         go_round
         case rel=>exact ⟨i+1,z,rfl,by go_num,by omega,by
          show z=_
          rw [HZ.out]
          by_cases h:p < i
          · rw [if_pos h,if_pos (by omega)]
          · rw [if_neg h,if_neg (by omega)]⟩
         case measure=>simp [intOf];omega
     · have hio':¬ (i:Int) < (ops.length:Int):=by omega
       obtain rfl:z=(p:Int):=by rw [HZ.out,if_pos (by omega)]
       clear HZ
       go_wp2_with fail
       go_loop [13] (fun s13=>∃ (i:Nat),s13=.int .i64 (i:Int)∧i≤j) (fun s13=>j - (intOf s13).toNat)
       case atStart=>exact ⟨0,rfl,by omega⟩
       case round=>
        obtain ⟨k,rfl,hk⟩:=hrel
        by_cases hkj:k < j
        · have hkj':(k:Int) < (j:Int):=by omega
          have hwk:IntKind.i64.wrap ((k:Int)+1)=(k:Int)+1:=by go_arith
          obtain ⟨y,hy⟩:∃ y,pl[k]?=some y:=⟨_,List.getElem?_eq_getElem (by omega)⟩
          have hyp:y≠p:=fun e=>by
           subst e
           obtain ⟨hk1,hk2⟩:=List.getElem?_eq_some_iff.1 hy
           obtain ⟨hj1,hj2⟩:=List.getElem?_eq_some_iff.1 hp1
           exact List.pairwise_iff_getElem.1 hnd k j hk1 hj1 hkj (hk2.trans hj2.symm)
          have hyp':((y:Int) == (p:Int))=false:=by rw [beq_eq_false_iff_ne];omega
          obtain ⟨g,rfl⟩:∃ g,a=some ⟨g,0,none⟩:=by
           rcases zzD HR2.out with ⟨_,e⟩ | ⟨g,cap,e,_⟩
           · omega
           · injection e with e;exact ⟨g,e⟩
          have hlen:(pl.take j).length=j:=by rw [List.length_take];omega
          have y0:w2.cell? ⟨g,k,none⟩=some (.int .i64 (y:Int)):=by
           have h:=HR2.out.cells (g:=g) rfl k (.int .i64 (y:Int)) (by unfold zea;rw [List.getElem?_map,List.getElem?_take,if_pos (by omega),hy];rfl)
           rw [Addr.add_lit,Nat.zero_add] at h
           exact h
          clear hlen hyp
          go_wp2_with fail
          go_round
          case rel=>exact ⟨k+1,by go_num,by omega⟩
          case measure=>simp [intOf];omega
        · obtain rfl:k=j:=by omega
          have hkj':¬ (k:Int) < (k:Int):=by omega
          have hp0:¬ (p:Int) < 0:=by omega
          obtain ⟨a7,c7,w7,hap,own7,hk7⟩:=zla false w2 w.heap.size a k c (zea (pl.take k)) (p:Int) HR2.out (by omega) HBw.out.size
          have hap':(Builtin.append_ #[43,43] 43 #[.slice a k c,.slice (some ⟨w2.heap.size,0,none⟩) 1 1]).run Tryz.prog (w2.alloc (.cells #[.int .i64 (p:Int)] 3))=.ok (.slice a7 (k+1) c7) w7:=hap
          have ht:pl.take (k+1)=pl.take k++[p]:=by rw [List.take_add_one,hp1];rfl
          rw [←zyv,←ht] at own7
          have HO7:Hid _:=own7
          have HB7:Hid (Below w.heap.size w w7):=HBw.out.trans (hk7.below HBw.out.size (fun g hg=>(HR2.out.lt g (by simpa using hg)).1))
          clear hap own7 hk7 ht
          go_wp2_with (at_builtin;refine zOu rfl _ _ 43 rfl _ _ _ _ rfl rfl hap' ?_)
          go_roundw
          case rel=>exact ⟨k+1,a7,c7,rfl,rfl,by omega,HO7,HB7⟩
          case measure=>simp;omega
  · obtain rfl:j=Q.length:=by omega
    rw [List.drop_length]
    have HR':Hid (wr.ownsRow w.heap.size 3 1 (.slice a pl.length c) pl.length (zea pl)):=by
     have h:=HR.out
     rw [←hpll,List.take_length] at h
     exact h
    rw [←hpll]
    rw [show idsT ([]:List OpV)=[] by simp [idsT,Lib.join,List.intercalate]]
    go_wp2_with fail
    go_ret2
    exact ⟨a,c,rfl,HR'.out,HB.out⟩
end Go.Proofs.YtbbkihekjdffpaaGreatDoor.jd
