/- Several texts in one. -/
import Derived.Test.YtlkidmafomjhgaaGreatDoorKeepM
import Derived.Test.YtlkidmafomjhgaaGreatDoorKeepXc
set_option maxHeartbeats 2000000
set_option maxRecDepth 100000
namespace Go.Proofs.YtlkidmafomjhgaaGreatDoor.keep
open Go.RowKit
open srch (flt LinP ahB stDo zqY znu)
theorem TellsG.lines_in {i:Nat} {ops:List OpV} {lines:List (List UInt8)} (h:TellsG i ops lines):∀ o∈ops,1≤o.call∧o.call≤(lines.length:Int)∧0≤o.ret∧o.ret≤(lines.length:Int):=by
 induction h with
 | nil=>simp
 | @call ops lines h k kk id cl arg exp d hk hkk h0 hc ha he harg hexp hid hf ih=>
   intro o ho
   rw [List.length_append,List.length_singleton]
   rcases List.mem_append.1 ho with ho | ho
   · have:=ih o ho;exact ⟨this.1,by omega,this.2.2.1,by omega⟩
   · rw [List.mem_singleton] at ho
     subst ho
     exact ⟨by show 1≤(lines.length:Int)+1;omega,by show (lines.length:Int)+1≤_;omega,by show (0:Int)≤0;omega,by show (0:Int)≤_;omega⟩
 | @ret ops lines h j k o vk vn d hj hr hk hn hv ih=>
   intro x hx
   rw [List.length_append,List.length_singleton]
   rcases List.mem_or_eq_of_mem_set hx with hx | rfl
   · have:=ih x hx;exact ⟨this.1,by omega,this.2.2.1,by omega⟩
   · have:=ih o (List.mem_of_getElem? hj)
     exact ⟨this.1,by show o.call≤_;omega,by show 0≤(lines.length:Int)+1;omega,by show (lines.length:Int)+1≤_;omega⟩
end Go.Proofs.YtlkidmafomjhgaaGreatDoor.keep
namespace Go.Proofs.YtlkidmafomjhgaaGreatDoor.keep
open Go.RowKit
open srch (flt LinP ahB stDo zqY ordO Judged JudgedOf byKeyP sortedU keysU zPi zMI qKey zl7 zUH z4A zqr zYh zmY LinedM z9L sumL say zkp zAl Legal)
theorem TellsG.keys {i:Nat} (hkd:zSt i=true) {ops:List OpV} {lines:List (List UInt8)} (h:TellsG i ops lines):∀ o∈ops,∃ k,k < 3∧o.key=keyS k:=by
 induction h with
 | nil=>simp
 | @call ops lines h ko kk id cl arg exp d hk hkk h0 hc ha he harg hexp hid hf ih=>
   intro o ho
   rcases List.mem_append.1 ho with ho | ho
   · exact ih o ho
   · rw [List.mem_singleton] at ho
     subst ho
     exact ⟨kk,hkk,by show (if zSt i=true then keyS kk else [])=_;rw [if_pos hkd]⟩
 | @ret ops lines h j k o vk vn d hj hr hk hn hv ih=>
   intro x hx
   rcases List.mem_or_eq_of_mem_set hx with hx | rfl
   · exact ih x hx
   · exact ih o (List.mem_of_getElem? hj)
end Go.Proofs.YtlkidmafomjhgaaGreatDoor.keep
namespace Go.Proofs.YtlkidmafomjhgaaGreatDoor.keep
open Go.RowKit

theorem zvr (id cl:Int) (name key:List UInt8) (arg exp call ret vk vn:Int) (w:World) (hv:zWP vk vn):
 Calls Tryz.prog 20 #[opA id cl name key arg exp call ret vk vn] w fun e w'=>e=.returned (.agg #[.int .i64 (z2F name vk vn).1,.int .i64 (z2F name vk vn).2])∧Below w.heap.size w w':=by
 obtain ⟨R,hR⟩:∃ R,R=z2F name vk vn:=⟨_,rfl⟩
 rw [←hR]
 unfold opA
 rcases hv with ⟨rfl,rfl⟩ | ⟨rfl,h1,h2⟩ | ⟨rfl,h | h⟩
 · cases hg:(name == [103,101,116]) with
   | true=>
     have hR':Hid (R=(1,5)):=by show _=_;rw [hR];unfold z2F;rw [if_neg (by decide),if_neg (by decide),if_pos (.inl (by simpa using hg))]
     clear hR
     go_enter Tryz.func20,Tryz.ntmps20
     go_wp2_with fail
     exact bodyPost_ret (v:=.agg #[.int .i64 1,.int .i64 5]) (by simp [results,Tryz.results20,go_sem]) rfl ⟨by rw [hR'.out],((Below.refl _ _).alloc (Nat.le_refl _) _).alloc (by simp) _⟩
   | false=>
     cases hd:(name == [100,101,113]) with
     | true=>
       have hR':Hid (R=(1,5)):=by show _=_;rw [hR];unfold z2F;rw [if_neg (by decide),if_neg (by decide),if_pos (.inr (by simpa using hd))]
       clear hR
       go_enter Tryz.func20,Tryz.ntmps20
       go_wp2_with fail
       exact bodyPost_ret (v:=.agg #[.int .i64 1,.int .i64 5]) (by simp [results,Tryz.results20,go_sem]) rfl ⟨by rw [hR'.out],((Below.refl _ _).alloc (Nat.le_refl _) _).alloc (by simp) _⟩
     | false=>
       have hR':Hid (R=(0,0)):=by show _=_;rw [hR];unfold z2F;rw [if_neg (by decide),if_neg (by decide),if_neg (by rintro (h | h);(simp [h] at hg);(simp [h] at hd))]
       clear hR
       go_enter Tryz.func20,Tryz.ntmps20
       go_wp2_with fail
       exact bodyPost_ret (v:=.agg #[.int .i64 0,.int .i64 0]) (by simp [results,Tryz.results20,go_sem]) rfl ⟨by rw [hR'.out],((Below.refl _ _).alloc (Nat.le_refl _) _).alloc (by simp) _⟩
 · have hR':Hid (R=(1,vn+1)):=by show _=_;rw [hR];rfl
   have hw:IntKind.i64.wrap (vn+1)=vn+1:=z6Xb (by omega) (by omega)
   clear hR
   go_enter Tryz.func20,Tryz.ntmps20
   go_wp2_with fail
   exact bodyPost_ret (v:=.agg #[.int .i64 1,.int .i64 (vn+1)]) (by simp [results,Tryz.results20,go_sem]) rfl ⟨by rw [hR'.out],((Below.refl _ _).alloc (Nat.le_refl _) _).alloc (by simp) _⟩
 · have hR':Hid (R=(2,1)):=by show _=_;rw [hR,h];rfl
   subst h
   clear hR
   go_enter Tryz.func20,Tryz.ntmps20
   go_wp2_with fail
   exact bodyPost_ret (v:=.agg #[.int .i64 2,.int .i64 1]) (by simp [results,Tryz.results20,go_sem]) rfl ⟨by rw [hR'.out],((Below.refl _ _).alloc (Nat.le_refl _) _).alloc (by simp) _⟩
 · have hR':Hid (R=(2,0)):=by show _=_;rw [hR,h];rfl
   subst h
   clear hR
   go_enter Tryz.func20,Tryz.ntmps20
   go_wp2_with fail
   exact bodyPost_ret (v:=.agg #[.int .i64 2,.int .i64 0]) (by simp [results,Tryz.results20,go_sem]) rfl ⟨by rw [hR'.out],((Below.refl _ _).alloc (Nat.le_refl _) _).alloc (by simp) _⟩
end Go.Proofs.YtlkidmafomjhgaaGreatDoor.keep
namespace Go.Proofs.YtlkidmafomjhgaaGreatDoor.keep
open Go.RowKit
open srch (zFI zlv zOu)
theorem zY1 (l:List (List UInt8)):(strCells l).length=l.length:=by simp [strCells]
theorem zCF (W:World) (base g c:Nat) (ls:List (List UInt8)) (h:W.ownsRow base 9 1 (.slice (some ⟨g,0,none⟩) ls.length c) ls.length (strCells ls)) (hl:ls.length≤1000):
 ∃ a' c' w',(Builtin.append_ #[24,24] 24 #[.slice none 0 0,.slice (some ⟨g,0,none⟩) ls.length c]).run Tryz.prog W=.ok (.slice a' ls.length c') w'∧w'.ownsRow W.heap.size 9 1 (.slice a' ls.length c') ls.length (strCells ls)∧Below W.heap.size W w':=by
 obtain ⟨i0,hi0',hz0,hz1,hz2⟩:=info_parts strInfo
 obtain ⟨v7,w7,h1,h2,h3,_⟩:=run_append_own (P:=Tryz.prog) W W.heap.size 24 24 9 i0 _ 1 16 Tryz.underlying24 hi0' hz0 hz1 hz2 rfl (by decide) (.slice none 0 0) 0 [] (World.ownsRow_nil _ _ _ _) ⟨g,0,none⟩ ls.length c (strCells ls) (by rw [zY1];omega) (fun j u hj=>h.cells (g:=g) rfl j u hj) (by intro u hu;obtain ⟨x,_,rfl⟩:=List.mem_map.1 hu;rfl) (by unfold maxLen;omega) (by omega) (Nat.le_refl _)
 rw [Nat.zero_add,List.nil_append] at h2
 obtain ⟨a',c',rfl⟩:=zIW h2
 exact ⟨a',c',w7,h1,h2,(Below.refl _ W).grown h3 (Nat.le_refl _) (by intro k hk;simp [Value.ownBlock] at hk)⟩
theorem ze6 {w':World} {b:Nat} {id cl:Int} {name key:List UInt8} {arg exp call ret x y:Int} (h:w'.heap[b]?=some (.cells #[.int .i64 id,.int .i64 cl,.string ⟨name.toArray⟩,.string ⟨key.toArray⟩,.int .i64 arg,.int .i64 exp,.int .i64 call,.int .i64 ret,.int .i64 x,.int .i64 y] 48 (0,0))):
 w'.cell? ⟨b,0,none⟩=some (.int .i64 id)∧w'.cell? ⟨b,1,none⟩=some (.int .i64 cl)∧w'.cell? ⟨b,2,none⟩=some (.string ⟨name.toArray⟩)∧w'.cell? ⟨b,3,none⟩=some (.string ⟨key.toArray⟩)∧w'.cell? ⟨b,4,none⟩=some (.int .i64 arg)∧w'.cell? ⟨b,5,none⟩=some (.int .i64 exp)∧w'.cell? ⟨b,6,none⟩=some (.int .i64 call)∧w'.cell? ⟨b,7,none⟩=some (.int .i64 ret)∧w'.cell? ⟨b,8,none⟩=some (.int .i64 x)∧w'.cell? ⟨b,9,none⟩=some (.int .i64 y):=
 ⟨zBk h 0,zBk h 1,zBk h 2,zBk h 3,zBk h 4,zBk h 5,zBk h 6,zBk h 7,zBk h 8,zBk h 9⟩
end Go.Proofs.YtlkidmafomjhgaaGreatDoor.keep
namespace Go.Proofs.YtlkidmafomjhgaaGreatDoor.keep
open Go.RowKit
open srch (renO zkp Pow zWT zqC)
theorem Turned.self {i:Nat} (hi:i < 5) {ops0 ops:List OpV} {lines0 lines:List (List UInt8)} (h:Tells i ops0 lines0) (hl:lines0.length≤18) (t:Turned ops0 ops lines0 lines):TellsG i ops lines:=by
 obtain ⟨f1,f2,f3⟩:=t.form hi h
 have back:∀ (j:Nat) (o:OpV),ops[j]?=some o→∃ o0,ops0[j]?=some o0∧∃ vk vn,o={ o0 with vk:=vk,vn:=vn }:=by
  intro j o hj
  cases hj0:ops0[j]? with
  | none=>rw [List.getElem?_eq_none (by rw [f2];exact List.getElem?_eq_none_iff.1 hj0)] at hj;cases hj
  | some o0=>
    obtain ⟨vk,vn,e,_⟩:=f3 j o0 hj0
    rw [hj] at e
    injection e with e
    exact ⟨o0,rfl,vk,vn,e⟩
 have g1:=t.again hi h (fun n=>n) (fun n=>n) (fun _ _ h=>h) (fun n hn=>⟨by omega,by omega⟩) (fun _ _ h=>h) (fun c hc=>⟨by omega,by omega⟩) lines (by omega) f1
  (fun j o hj kk h1 h2 h3=>by
   obtain ⟨o0,hj0,vk,vn,rfl⟩:=back j o hj
   obtain ⟨_,_,_,_,_,g⟩:=f3 j o0 hj0
   exact g kk h1 h2 h3)
  (fun j o hj hz=>by
   obtain ⟨o0,hj0,vk,vn,rfl⟩:=back j o hj
   obtain ⟨vk',vn',e,_,g,_⟩:=f3 j o0 hj0
   rw [hj] at e
   injection e with e
   injection e with _ _ _ _ _ _ _ _ e1 e2
   subst e1;subst e2
   exact (g hz).2)
 have e0:ops.map (renO (fun n=>n) (fun n=>n))=ops:=List.map_id'' (fun o=>rfl) ops
 rw [e0] at g1
 exact g1
end Go.Proofs.YtlkidmafomjhgaaGreatDoor.keep
namespace Go.Proofs.YtlkidmafomjhgaaGreatDoor.keep
open Go.RowKit
open srch (qKey)
theorem zUk (t r:List UInt8) (s:List UInt8) (hs:s=t++r) (w:World):
 Calls Tryz.prog 17 #[.string ⟨s.toArray⟩,.string ⟨t.toArray⟩] w fun e w'=>e=.returned (.bool true)∧w'=w:=by
 have h1:(t.length:Int)≤(s.length:Int):=by rw [hs,List.length_append];omega
 have hex:(⟨s.toArray⟩:ByteArray).extract 0 t.length=⟨t.toArray⟩:=by
  rw [Lib.extract_eq,hs];simp
 clear hs
 go_enter Tryz.func17,Tryz.ntmps17
 go_wp2_with fail
 go_ret
 exact ⟨rfl,rfl⟩
theorem zy5 (i:Nat) (hi:i < 5) (hkd:zSt i=true) (k:Nat) (hk:k < 3) (w:World):
 Calls Tryz.prog 18 #[.string ⟨(modS i).toArray⟩,.int .i64 (k:Int)] w fun e w'=>e=.returned (.string ⟨(qKey (keyS k)).toArray⟩)∧Below w.heap.size w w':=by
 have hky:=fun W=>zUa i hi W
 rw [hkd] at hky
 obtain rfl | rfl | rfl:k=0∨k=1∨k=2:=by omega
 all_goals
  go_enter Tryz.func18,Tryz.ntmps18
  go_wp2_with fail
  refine (hky _).mono ?_
  rintro e w1 ⟨rfl,rfl⟩
  go_wp2_with fail
  go_ret
  exact ⟨rfl,(Below.refl _ _).alloc (Nat.le_refl _) _⟩
end Go.Proofs.YtlkidmafomjhgaaGreatDoor.keep
namespace Go.Proofs.YtlkidmafomjhgaaGreatDoor.keep
open Go.RowKit
open srch (LinP zsN Legal zpq endS ahB flt zCI stDo zqY lkDo quDo zkp say JudgedOf Judged zl7 zSm zAl ordO byKeyP sortedU zMI qKey idsT keysU zPi)
def sIllP:List UInt8:=[73,76,76,69,71,65,76,32,112,97,114,116,61]
def sLong:List UInt8:=[32,108,111,110,103,101,115,116,61]
theorem zbW {σ:Type} [DecidableEq σ] (doit:σ→OpV→σ×Int×Int) (s0:σ) {ps:List (List UInt8×List OpV)} {b:Int} {v:Nat×List UInt8×List (List OpV)} (h:Judged (fun p b r=>srch.Found doit (ordO p) s0 b r) ps b [] v) (hok:∀ q∈ps,q.2.length≤128∧q.2.Nodup) (hv:v.1=2) (nm:List UInt8) (P A:List OpV)
 (hone:∀ q∈ps,¬ LinP doit s0 q.2→q=(nm,P)) (hA:∀ r,Legal doit s0 P r→(∀ ord,Legal doit s0 P ord→ord.length≤r.length)→r=A):say v=sIllP++nm++sLong++idsT A++[10]:=by
 rcases zl7 doit s0 h hok (by omega) with ⟨e,_⟩ | ⟨_,l1,nm',p,l2,r,e,_,hno,hn1,hn2,hL,hmax⟩
 · omega
 · have hq:=hone (nm',p) (by rw [e];simp) hno
   injection hq with e1 e2
   subst e1
   subst e2
   have:=hA r hL hmax
   subst this
   unfold say
   rw [if_neg (by omega),if_pos hv,hn1,hn2]
   rfl
theorem zfE {i:Nat} (hi:i < 5) {ops:List OpV} {lines:List (List UInt8)} {keys:List Nat} {ls:Nat→List Int} {dn:List (Nat×Int×Int)} (h:Lives true i ops lines keys ls dn) (hl:lines.length≤18) (k:Nat) (o:OpV) (hk:ops[k]?=some o) (hr:o.ret≠0) (hne:z2F o.name o.vk o.vn≠(o.vk,o.vn)) (kk:Nat) (hkk:keys[k]?=some kk) {b:Int} (hb:1000000≤b) {x:List UInt8} (hx:zkp (modS i) (zhe (twL lines o)) b x):
 x=sIllP++(if zSt i=true then qKey (keyS kk) else [45])++sLong++idsT (flt o.key (ops.take k))++[10]:=by
 have ht:=h.tells
 have htu:Turned ops (twO ops k o) lines (twL lines o):=.inr ⟨k,o,hk,hr,rfl,rfl⟩
 have hg:=htu.self hi ht hl
 obtain ⟨fl,fo,_⟩:=htu.form hi ht
 have hrd:=(zGe i hi hg (by omega)).1
 obtain ⟨m,hd⟩:=zAl hrd
 have hn:(twO ops k o).length≤10:=by rw [fo];exact ht.few hl
 obtain ⟨hkl,hke⟩:=List.getElem?_eq_some_iff.1 hk
 obtain ⟨o',ho'⟩:∃ o':OpV,o'={ o with vk:=(z2F o.name o.vk o.vn).1,vn:=(z2F o.name o.vk o.vn).2 }:=⟨_,rfl⟩
 have eT:twO ops k o=ops.take k++o'::ops.drop (k+1):=by unfold twO;rw [←ho',List.set_eq_take_append_cons_drop,if_pos hkl]
 have e0:ops=ops.take k++o::ops.drop (k+1):=by rw [←hke,←List.drop_eq_getElem_cons hkl,List.take_append_drop]
 have hsub:∀ q∈twO ops k o,q∈ops∨q=o':=fun q hq=>by unfold twO at hq;rw [←ho'] at hq;exact List.mem_or_eq_of_mem_set hq
 have hkey':o'.key=o.key:=by rw [ho']
 have hret':o'.ret=o.ret:=by rw [ho']
 have hcall':o'.call=o.call:=by rw [ho']
 have hcl:∀ q∈twO ops k o,q.cl∈[(-1:Int),0,1]:=fun q hq=>by
  have hc: -1≤q.cl∧q.cl≤1:=by
   rcases hsub q hq with hq | rfl
   · exact ht.cls q hq
   · rw [ho'];exact ht.cls o (List.mem_of_getElem? hk)
  simp;omega
 obtain ⟨hseq,hcr⟩:=h.seq rfl
 have hndT:=hd.nodup
 have hnd0:ops.Nodup:=by
  rw [List.Nodup,List.pairwise_iff_getElem]
  intro a c ha hc hac e
  have h1:=ht.ids a _ (List.getElem?_eq_getElem ha)
  have h2:=ht.ids c _ (List.getElem?_eq_getElem hc)
  rw [e] at h1
  omega
 have hseqT:(twO ops k o).Pairwise SeqR:=by
  rw [e0] at hseq
  rw [eT]
  obtain ⟨p1,p2,p3⟩:=List.pairwise_append.1 hseq
  obtain ⟨p4,p5⟩:=List.pairwise_cons.1 p2
  refine List.pairwise_append.2 ⟨p1,List.pairwise_cons.2 ⟨fun y hy=>?_,p5⟩,fun a ha y hy=>?_⟩
  · have:=p4 y hy;exact ⟨by rw [hret'];exact this.1,by rw [hret'];exact this.2⟩
  · rcases List.mem_cons.1 hy with rfl | hy
    · have:=p3 a ha o (by simp);exact ⟨this.1,by rw [hcall'];exact this.2⟩
    · exact p3 a ha y (by simp [hy])
 have hcrT:∀ q∈twO ops k o,q.ret≠0→q.call < q.ret:=fun q hq=>by
  rcases hsub q hq with hq | rfl
  · exact hcr q hq
  · rw [hret',hcall'];exact hcr o (List.mem_of_getElem? hk)
 -- a part
 have hF0:flt o.key ops=flt o.key (ops.take k)++o::flt o.key (ops.drop (k+1)):=by
  conv=>lhs;rw [e0]
  unfold flt
  rw [List.filter_append,List.filter_cons_of_pos (by simp)]
 have hF1:flt o.key (twO ops k o)=flt o.key (ops.take k)++o'::flt o.key (ops.drop (k+1)):=by
  rw [eT]
  unfold flt
  rw [List.filter_append,List.filter_cons_of_pos (by simp [hkey'])]
 have hFn:∀ q,q≠o.key→flt q (twO ops k o)=flt q ops:=by
  intro q hq
  rw [eT]
  conv=>rhs;rw [e0]
  unfold flt
  rw [List.filter_append,List.filter_append,List.filter_cons_of_neg (by rw [hkey'];simpa using fun e:o.key=q=>hq e.symm),List.filter_cons_of_neg (by simpa using fun e:o.key=q=>hq e.symm)]
 have hpart:∀ {σ:Type} (doit:σ→OpV→σ×Int×Int) (s0:σ),(∀ s,doit s o'=doit s o)→LinP doit s0 (flt o.key ops)→¬ LinP doit s0 (flt o.key (twO ops k o))∧∀ r,Legal doit s0 (flt o.key (twO ops k o)) r→(∀ ord,Legal doit s0 (flt o.key (twO ops k o)) ord→ord.length≤r.length)→r=flt o.key (ops.take k):=by
  intro σ doit s0 hdo hlin
  have n0:(flt o.key ops).Nodup:=hnd0.filter _
  have n1:(flt o.key (twO ops k o)).Nodup:=hndT.filter _
  have q0:(flt o.key ops).Pairwise SeqR:=hseq.filter _
  have q1:(flt o.key (twO ops k o)).Pairwise SeqR:=hseqT.filter _
  have c1:∀ q∈flt o.key (twO ops k o),q.ret≠0→q.call < q.ret:=fun q hq=>hcrT q (List.mem_filter.1 hq).1
  rw [hF0] at n0 q0 hlin
  rw [hF1] at n1 q1 c1 ⊢
  exact zjd doit n0 n1 q0 q1 c1 hr (by rw [hret'];exact hr) hdo (by rw [ho'];exact hne) hlin
 have hlin:=h.lin hi h.kl
 have hm:zNI (modS i) opTab=true:=by
  obtain rfl | rfl | rfl | rfl | rfl:i=0∨i=1∨i=2∨i=3∨i=4:=by omega
  all_goals decide
 rcases hx with ⟨k',_⟩ | ⟨_,⟨l,r,e,_⟩ | ⟨ops',v,e,j,rfl⟩⟩
 · rw [hm] at k';cases k'
 · rw [hrd] at e;cases e
 · rw [hrd] at e
   injection e with e
   subst e
   rw [show min b 1000000=1000000 by omega] at j
   have hv:=zSm [-1,0,1] rfl j hcl hn hd.nodup hd.lined
   obtain ⟨k1,a1,a2,a3,a4⟩:=h.kl.2 k o hk
   obtain rfl:kk=k1:=by rw [hkk] at a1;injection a1
   have hsize:(twO ops k o).length≤128:=by omega
   have hin:o.key∈sortedU (twO ops k o):=by
    unfold sortedU
    rw [List.mem_mergeSort]
    exact (zPi _ _).2 (by rw [hF1];simp)
   have hwh:zSt i=false→flt o.key ops=ops∧flt o.key (twO ops k o)=twO ops k o:=by
    intro hf
    have hz:∀ q∈ops,q.key=[]:=fun q hq=>by
     obtain ⟨jj,hjj⟩:=List.mem_iff_getElem?.1 hq
     obtain ⟨_,_,_,_,b4⟩:=h.kl.2 jj q hjj
     rw [b4,if_neg (by rw [hf];simp)]
    have ho0:o.key=[]:=hz o (List.mem_of_getElem? hk)
    refine ⟨List.filter_eq_self.2 fun q hq=>by rw [hz q hq,ho0];rfl,List.filter_eq_self.2 fun q hq=>?_⟩
    rcases hsub q hq with hq | rfl
    · rw [hz q hq,ho0];rfl
    · rw [hkey'];simp
   have finW:∀ {σ:Type} [DecidableEq σ] (doit:σ→OpV→σ×Int×Int) (s0:σ),zSt i=false→(∀ s,doit s o'=doit s o)→LinP doit s0 ops→(zsN (modS i) (twO ops k o)→LinP doit s0 (twO ops k o))→Judged (fun p b r=>srch.Found doit (ordO p) s0 b r) [([45],twO ops k o)] 1000000 [] v→say v=sIllP++(if zSt i=true then qKey (keyS kk) else [45])++sLong++idsT (flt o.key (ops.take k))++[10]:=by
    intro σ _ doit s0 hf hdo hl0 hla hj
    obtain ⟨w0,w1⟩:=hwh hf
    obtain ⟨p1,p2⟩:=hpart doit s0 hdo (by rw [w0];exact hl0)
    rw [w1] at p1 p2
    have hv2:v.1=2:=by
     rcases hv with ⟨_,h2⟩ | ⟨h1,_⟩
     · exact absurd (hla h2) p1
     · exact h1
    rw [if_neg (by rw [hf];simp)]
    exact zbW doit s0 hj (fun q hq=>by simp at hq;subst hq;exact ⟨hsize,hndT⟩) hv2 [45] _ _ (fun q hq _=>by simpa using hq) p2
   have finK:∀ {σ:Type} [DecidableEq σ] (doit:σ→OpV→σ×Int×Int) (s0:σ),zSt i=true→(∀ s,doit s o'=doit s o)→(∀ q∈sortedU ops,LinP doit s0 (flt q ops))→(zsN (modS i) (twO ops k o)→∀ q∈sortedU (twO ops k o),LinP doit s0 (flt q (twO ops k o)))→Judged (fun p b r=>srch.Found doit (ordO p) s0 b r) (byKeyP (twO ops k o)) 1000000 [] v→say v=sIllP++(if zSt i=true then qKey (keyS kk) else [45])++sLong++idsT (flt o.key (ops.take k))++[10]:=by
    intro σ _ doit s0 hf hdo hl0 hla hj
    have hall:∀ q,LinP doit s0 (flt q ops):=fun q=>by
     by_cases e:flt q ops=[]
     · rw [e];exact ⟨[],⟨List.nodup_nil,by simp,by simp,trivial⟩,by simp⟩
     · exact hl0 q (by unfold sortedU;rw [List.mem_mergeSort];exact (zPi _ _).2 e)
    obtain ⟨p1,p2⟩:=hpart doit s0 hdo (hall _)
    have hv2:v.1=2:=by
     rcases hv with ⟨_,h2⟩ | ⟨h1,_⟩
     · exact absurd (hla h2 _ hin) p1
     · exact h1
    rw [if_pos hf] at a4 ⊢
    rw [←a4]
    exact zbW doit s0 hj (fun q hq=>by
     obtain ⟨y,_,rfl⟩:=List.mem_map.1 hq
     exact ⟨Nat.le_trans (List.length_filter_le _ _) hsize,hndT.filter _⟩) hv2 (qKey o.key) _ _ (fun q hq hno=>by
     obtain ⟨y,_,rfl⟩:=List.mem_map.1 hq
     by_cases e:y=o.key
     · rw [e]
     · dsimp only at hno
       rw [hFn y e] at hno
       exact absurd (hall y) hno) p2
   have hno:∀ {a c:List UInt8} {Q R:Prop},(decide (a=c))=false→a=c∧Q→R:=fun h ⟨e,_⟩=>absurd e (by simpa using h)
   match i,hi with
   | 0,_=>
     have hL:LinP zCI 0 ops:=by
      rcases hlin with ⟨_,x⟩ | x | x | x | x
      · exact x
      all_goals exact hno (by decide) x
     refine finW zCI 0 rfl (fun s=>by rw [ho'];rfl) hL (fun q=>?_) ?_
     · rcases q with ⟨_,x⟩ | x | x | x | x
       · exact x
       all_goals exact hno (by decide) x
     · rcases j with ⟨_,x⟩ | x | x | x | x
       · exact x
       all_goals exact hno (by decide) x
   | 1,_=>
     have hL:∀ q∈sortedU ops,LinP stDo (false,0) (flt q ops):=by
      rcases hlin with x | ⟨_,x⟩ | x | x | x
      · exact hno (by decide) x
      · exact x
      all_goals exact hno (by decide) x
     refine finK stDo (false,0) rfl (fun s=>by rw [ho'];rfl) hL (fun q=>?_) ?_
     · rcases q with x | ⟨_,x⟩ | x | x | x
       · exact hno (by decide) x
       · exact x
       all_goals exact hno (by decide) x
     · rcases j with x | ⟨_,x⟩ | x | x | x
       · exact hno (by decide) x
       · exact x
       all_goals exact hno (by decide) x
   | 2,_=>
     have hL:LinP quDo [] ops:=by
      rcases hlin with x | x | ⟨_,x⟩ | x | x
      · exact hno (by decide) x
      · exact hno (by decide) x
      · exact x
      all_goals exact hno (by decide) x
     refine finW quDo [] rfl (fun s=>by rw [ho'];rfl) hL (fun q=>?_) ?_
     · rcases q with x | x | ⟨_,x⟩ | x | x
       · exact hno (by decide) x
       · exact hno (by decide) x
       · exact x
       all_goals exact hno (by decide) x
     · rcases j with x | x | ⟨_,x⟩ | x | x
       · exact hno (by decide) x
       · exact hno (by decide) x
       · exact x
       all_goals exact hno (by decide) x
   | 3,_=>
     have hL:∀ q∈sortedU ops,LinP zqY false (flt q ops):=by
      rcases hlin with x | x | x | ⟨_,x⟩ | x
      · exact hno (by decide) x
      · exact hno (by decide) x
      · exact hno (by decide) x
      · exact x
      · exact hno (by decide) x
     refine finK zqY false rfl (fun s=>by rw [ho'];rfl) hL (fun q=>?_) ?_
     · rcases q with x | x | x | ⟨_,x⟩ | x
       · exact hno (by decide) x
       · exact hno (by decide) x
       · exact hno (by decide) x
       · exact x
       · exact hno (by decide) x
     · rcases j with x | x | x | ⟨_,x⟩ | x
       · exact hno (by decide) x
       · exact hno (by decide) x
       · exact hno (by decide) x
       · exact x
       · exact hno (by decide) x
   | 4,_=>
     have hL:LinP lkDo (false,0) ops:=by
      rcases hlin with x | x | x | x | ⟨_,x⟩
      · exact hno (by decide) x
      · exact hno (by decide) x
      · exact hno (by decide) x
      · exact hno (by decide) x
      · exact x
     refine finW lkDo (false,0) rfl (fun s=>by rw [ho'];rfl) hL (fun q=>?_) ?_
     · rcases q with x | x | x | x | ⟨_,x⟩
       · exact hno (by decide) x
       · exact hno (by decide) x
       · exact hno (by decide) x
       · exact hno (by decide) x
       · exact x
     · rcases j with x | x | x | x | ⟨_,x⟩
       · exact hno (by decide) x
       · exact hno (by decide) x
       · exact hno (by decide) x
       · exact hno (by decide) x
       · exact x
end Go.Proofs.YtlkidmafomjhgaaGreatDoor.keep
namespace Go.Proofs.YtlkidmafomjhgaaGreatDoor.keep
open Go.RowKit
open srch (flt idsT zkp say JudgedOf Judged zl7 zSm zAl Legal ordO byKeyP mergeP qKey)
theorem zL1 (n:Nat):Lib.decDigits n=digP n:=by
 induction n using Nat.strongRecOn with
 | ind n ih=>
   rw [Lib.decDigits,digP]
   by_cases h:n < 10
   · rw [dif_pos h,if_pos h]
   · rw [dif_neg h,if_neg h,ih (n / 10) (by omega)]
theorem zHP (n:Int):Lib.itoa n=sgnP n:=by unfold Lib.itoa sgnP;rw [zL1,zL1]
theorem ztP (n:Nat):digP n≠[]:=by rw [digP];split <;> simp
theorem zho (n:Int):sgnP n≠[]:=by unfold sgnP;split;simp;exact ztP _
theorem zvs (sep:List UInt8) (l:List (List UInt8)) (x:List UInt8):sep.intercalate (l++[x])=if l=[] then x else sep.intercalate l++sep++x:=by
 induction l with
 | nil=>simp [List.intercalate]
 | cons a r ih=>
   rw [if_neg (by simp)]
   cases r with
   | nil=>simp [List.intercalate,List.intersperse]
   | cons b t=>
     rw [if_neg (by simp)] at ih
     simp only [List.intercalate,List.cons_append,List.intersperse,List.flatten_cons] at ih ⊢
     rw [ih]
     simp only [List.append_assoc]
theorem zKz (l:List OpV) (o:OpV):idsT (l++[o])=if l=[] then sgnP o.id else idsT l++[44]++sgnP o.id:=by
 unfold idsT Lib.join
 rw [List.map_append,List.map_cons,List.map_nil,zvs,zHP]
 by_cases e:l=[]
 · rw [if_pos e,if_pos (by rw [e];rfl)]
 · rw [if_neg e,if_neg (by simpa using e)]
theorem zWs (l:List OpV):idsT l=[]↔l=[]:=by
 rcases List.eq_nil_or_concat l with rfl | ⟨r,o,rfl⟩
 · simp [idsT,Lib.join,List.intercalate]
 · rw [List.concat_eq_append,zKz]
   have h:=zho o.id
   split <;> simp [h]
theorem zqv (ls:List (List OpV)) (h:∀ l∈ls,l=[]):mergeP ls=[]:=by
 apply List.length_eq_zero_iff.1
 unfold mergeP
 rw [List.length_map,srch.mgO_len]
 have e:srch.allH ls=[]:=by
  unfold srch.allH
  rw [List.flatMap_eq_nil_iff]
  intro l hl
  apply List.length_eq_zero_iff.1
  rw [srch.haps_len,h l hl]
  rfl
 rw [e]
 rfl
theorem zgo {i:Nat} (hi:i < 5) {b:Int} (hb:1000000≤b) {x:List UInt8} (hr:zkp (modS i) [] b x):x=sOrd++[10]:=by
 have hrd:z8w (modS i) []=.inl []:=(zGe i hi (TellsG.nil (i:=i)) (by simp)).1
 obtain ⟨m,hd⟩:=zAl hrd
 have hm:zNI (modS i) opTab=true:=by
  obtain rfl | rfl | rfl | rfl | rfl:i=0∨i=1∨i=2∨i=3∨i=4:=by omega
  all_goals decide
 rcases hr with ⟨k',_⟩ | ⟨_,⟨l,r,e,_⟩ | ⟨ops',v,e,j,rfl⟩⟩
 · rw [hm] at k';cases k'
 · rw [hrd] at e;cases e
 · rw [hrd] at e
   injection e with e
   subst e
   rw [show min b 1000000=1000000 by omega] at j
   have hv:v.1=1:=by
    rcases zSm [-1,0,1] rfl j (by simp) (by simp) hd.nodup hd.lined with ⟨h1,_⟩ | ⟨_,h2⟩
    · exact h1
    · exact absurd ((Lives.nil (al:=true) (i:=i)).lin hi (Lives.nil (al:=true) (i:=i)).kl) h2
   have key:∀ {σ:Type} [DecidableEq σ] (doit:σ→OpV→σ×Int×Int) (s0:σ) (ps:List (List UInt8×List OpV)),(∀ q∈ps,q.2=[])→Judged (fun p b r=>srch.Found doit (ordO p) s0 b r) ps 1000000 [] v→say v=sOrd++[10]:=by
    intro σ _ doit s0 ps hps hj
    rcases zl7 doit s0 hj (fun q hq=>by rw [hps q hq];simp) (by omega) with ⟨_,_,os,e1,e2,e3⟩ | ⟨h2,_⟩
    · have:mergeP v.2.2=[]:=by
       rw [e1]
       refine zqv _ fun l hl=>?_
       obtain ⟨a,ha⟩:=List.mem_iff_getElem?.1 (show l∈os by simpa using hl)
       have hal:=(List.getElem?_eq_some_iff.1 ha).1
       have hp:=List.getElem?_eq_getElem (l:=ps) (i:=a) (by omega)
       have hL:=(e3 a _ l hp ha).1
       rw [hps _ (List.getElem_mem _)] at hL
       rcases l with _ | ⟨y,t⟩
       · rfl
       · have:=hL.sub y (by simp);simp at this
      unfold say
      rw [if_neg (by omega),if_neg (by omega),this]
      rfl
    · omega
   rcases j with ⟨_,j⟩ | ⟨_,j⟩ | ⟨_,j⟩ | ⟨_,j⟩ | ⟨_,j⟩
   · exact key _ _ _ (by simp) j
   · exact key _ _ _ (by simp [byKeyP,srch.sortedU,srch.keysU]) j
   · exact key _ _ _ (by simp) j
   · exact key _ _ _ (by simp [byKeyP,srch.sortedU,srch.keysU]) j
   · exact key _ _ _ (by simp) j
end Go.Proofs.YtlkidmafomjhgaaGreatDoor.keep
