/- Several texts in one. -/
import Derived.Test.YtbbkihekjdffpaaGreatDoorJdQ
set_option maxHeartbeats 8000000
set_option maxRecDepth 100000
namespace Go.Proofs.YtbbkihekjdffpaaGreatDoor.jd
open Go.RowKit
open srch (vAg opAg tI OAt zOu idsT)
def lone3 (m:List UInt8):Prop:=m=sReg∨m=zsK∨m=zyy
theorem lone3.five {m:List UInt8} (h:lone3 m):five m:=by
 rcases h with h | h | h
 · exact .inl h
 · exact .inr (.inr (.inl h))
 · exact .inr (.inr (.inr (.inr h)))
theorem zYt (m:List UInt8) (hm:lone3 m) (w:World):
 Calls Tryz.prog 32 #[.string ⟨m.toArray⟩] w fun e w'=>e=.returned (.bool false)∧w'=w:=by
 rcases hm with rfl | rfl | rfl
 all_goals
  simp only [sReg,zsK,zyy]
  go_enter Tryz.func32,Tryz.ntmps32
  go_wp2
  go_ret
  exact ⟨rfl,rfl⟩
theorem zsv:(Tryz.prog.info? 45).map (fun i=>(i.zero,i.size,i.bytes))=some (some (.agg #[.string ⟨#[]⟩,.slice none 0 0]),2,40):=by kernel_rfl
theorem zaZ (W:World) (base:Nat) (a:Option Addr) (n c:Nat) (xs:List Value) (k:List UInt8) (va:Option Addr) (vn vc:Nat) (h:W.ownsRow base 45 2 (.slice a n c) n xs) (hn:n≤3000000) (hb:base≤W.heap.size):
 ∃ a' c' w',(Builtin.append_ #[34,34] 34 #[.slice a n c,.slice (some ⟨W.heap.size,0,none⟩) 1 1]).run Tryz.prog (W.alloc (.cells #[.string ⟨k.toArray⟩,.slice va vn vc] 45))=.ok (.slice a' (n+1) c') w'∧w'.ownsRow base 45 2 (.slice a' (n+1) c') (n+1) (xs++[.string ⟨k.toArray⟩,.slice va vn vc])∧Kept (Value.slice a n c).ownBlock.toList W w':=by
 obtain ⟨i0,hi0',hz0,hz1,hz2⟩:=info_parts zsv
 obtain ⟨v7,w7,h1,h2,h3,_⟩:=run_append_own (P:=Tryz.prog) (W.alloc (.cells ([.string ⟨k.toArray⟩,.slice va vn vc]:List Value).toArray 45)) base 34 34 45 i0 _ 2 40 Tryz.underlying34 hi0' hz0 hz1 hz2 rfl (by decide) (.slice a n c) n xs (h.alloc _) ⟨W.heap.size,0,none⟩ 1 1 [.string ⟨k.toArray⟩,.slice va vn vc] rfl (z9R W _ _) (by intro u hu;simp at hu;rcases hu with rfl | rfl <;> rfl) (by unfold maxLen;omega) (by omega) (by simp;omega)
 obtain ⟨a',c',rfl⟩:=zIW h2
 exact ⟨a',c',w7,h1,h2,((Kept.refl _ W).alloc _).grownS h3 (fun g' hg'=>by rw [hg'];simp)⟩
structure OneP (w:World) (base:Nat) (a:Option Addr) (c:Nat) (va:Option Addr) (vc:Nat) (l:List Nat):Prop where
 row:w.ownsRow base 45 2 (.slice a 1 c) 1 [.string ⟨#[]⟩,.slice va l.length vc]
 at_:w.ownsRow base 3 1 (.slice va l.length vc) l.length (zea l)
theorem OneP.on {w w':World} {base:Nat} {a:Option Addr} {c:Nat} {va:Option Addr} {vc:Nat} {l:List Nat} (h:OneP w base a c va vc l) (k:Below w.heap.size w w'):OneP w' base a c va vc l:=
 ⟨zmP h.row (Kept.of_below (S:=[]) k) (by simp),zmP h.at_ (Kept.of_below (S:=[]) k) (by simp)⟩
theorem OneP.cells {w:World} {base:Nat} {a:Option Addr} {c:Nat} {va:Option Addr} {vc:Nat} {l:List Nat} (h:OneP w base a c va vc l):∃ g,a=some ⟨g,0,none⟩∧g < w.heap.size∧base≤g∧w.cell? ⟨g,0,none⟩=some (.string ⟨#[]⟩)∧w.cell? ⟨g,1,none⟩=some (.slice va l.length vc)∧w.frozen? ⟨g,1,none⟩=false:=by
 rcases zzD h.row with ⟨_,e⟩ | ⟨g,cap,e,_,hb,hg⟩
 · omega
 · injection e with e
   subst e
   have c0:=h.row.cells (g:=g) rfl 0 _ rfl
   have c1:=h.row.cells (g:=g) rfl 1 _ rfl
   rw [Addr.add_lit,Nat.zero_add] at c0 c1
   refine ⟨g,rfl,hg,hb,c0,c1,?_⟩
   rcases h.row.2 with ⟨h1,_⟩ | ⟨g',cap',cur,h1,_,hgb',_⟩
   · cases h1
   · injection h1 with h1;injection h1 with h1;injection h1 with h1;subst h1
     exact zBn hgb' 1
theorem zYO (m:List UInt8) (hm:lone3 m) (oa:Option Addr) (oc:Nat) (ops:List OpV) (w:World) (ho:OAt w oa ops) (hol:ops.length≤1000) (hk:∀ o∈ops,o.key=[]):
 Calls Tryz.prog 12 #[.string ⟨m.toArray⟩,.slice oa ops.length oc] w fun e w'=>∃ a c va vc,e=.returned (.slice a 1 c)∧OneP w' w.heap.size a c va vc (List.range ops.length)∧Below w.heap.size w w':=by
 have hky:=fun w=>zYt m hm w
 have hbl:Op.bytesLess ([]:List UInt8) []=false:=rfl
 obtain ⟨a0,c0,w0,hap,own0,hk0⟩:=zaZ w w.heap.size none 0 0 [] [] none 0 0 (World.ownsRow_nil _ _ _ _) (by omega) (Nat.le_refl _)
 have hb0:Below w.heap.size w w0:=hk0.below (Nat.le_refl _) (by simp [Value.ownBlock])
 have HO:Hid _:=(⟨own0,hb0⟩:_∧_)
 have hap':(Builtin.append_ #[34,34] 34 #[.slice none 0 0,.slice (some ⟨w.heap.size,0,none⟩) 1 1]).run Tryz.prog (w.alloc (.cells #[.string ⟨#[]⟩,.slice none 0 0] 45))=.ok (.slice a0 1 c0) w0:=hap
 clear own0 hb0 hk0 hap
 go_enter Tryz.func12,Tryz.ntmps12
 go_wp2_with fail
 refine (hky _).mono ?_
 rintro e w1 ⟨rfl,rfl⟩
 go_wp2_with (at_builtin;refine zOu rfl _ _ 34 rfl _ _ _ _ rfl rfl hap' ?_)
 go_loopw [5,7] (fun s5 s7 wr=>∃ (i:Nat) (va:Option Addr) (vc:Nat),s5=.slice a0 1 c0∧s7=.int .i64 (i:Int)∧i≤ops.length∧Hid (OneP wr w1.heap.size a0 c0 va vc (List.range i))∧Hid (Below w1.heap.size w1 wr)) (fun _ s7 _=>ops.length - (intOf s7).toNat)
 case atStart=>exact ⟨0,none,0,rfl,rfl,by omega,⟨HO.out.1,World.ownsRow_nil _ _ _ _⟩,HO.out.2⟩
 case round=>
  obtain ⟨i,va,vc,rfl,rfl,hi,HP,HB⟩:=hrel
  obtain ⟨wy,rfl⟩:∃ wy:World,wy=wr:=⟨_,rfl⟩
  obtain ⟨g,rfl,hg,hgb,p0,p1,pz⟩:=HP.out.cells
  by_cases hin:i < ops.length
  · have hin':(i:Int) < (ops.length:Int):=by omega
    have hwi:IntKind.i64.wrap ((i:Int)+1)=(i:Int)+1:=by go_arith
    obtain ⟨o,hoi⟩:∃ o,ops[i]?=some o:=⟨_,List.getElem?_eq_getElem hin⟩
    obtain ⟨go,rfl,hgo,_,hoc⟩:=zQO ho hoi
    have HX3:Hid (∀ V:World,Below wy.heap.size wy V→V.cell? ⟨go,i*10+3,none⟩=some (.string ⟨#[]⟩)):=fun V hV=>((HB.out.trans (hV.mono HB.out.size)).cell (p:=⟨go,i*10+3,none⟩) hgo).trans (hoc 3 _ (by decide) (by rw [show (opvCells o)[3]?=some (.string ⟨o.key.toArray⟩) from rfl,hk o (List.mem_of_getElem? hoi)]))
    have HP0:Hid (∀ V:World,Below wy.heap.size wy V→V.cell? ⟨g,0,none⟩=some (.string ⟨#[]⟩)):=fun V hV=>(hV.cell (p:=⟨g,0,none⟩) hg).trans p0
    have HP1:Hid _:=(⟨p1,pz⟩:_∧_)
    clear hoc p0 p1 pz
    go_wp2_with fail
    go_loopw [8] (fun s8 wx=>s8=.int .i64 0∧Hid (Below wy.heap.size wy wx)) (fun _ _=>0)
    case atStart=>exact ⟨rfl,Below.refl _ _⟩
    case round=>
     obtain ⟨rfl,HBx⟩:=hrel
     have x3:=HX3.out wr HBx.out
     have p0:=HP0.out wr HBx.out
     have x3':∀ q,(wr.drewN q).cell? ⟨go,i*10+3,none⟩=some (.string ⟨#[]⟩):=fun q=>HX3.out _ (zqh HBx.out q)
     have p0':∀ q,(wr.drewN q).cell? ⟨g,0,none⟩=some (.string ⟨#[]⟩):=fun q=>HP0.out _ (zqh HBx.out q)
     go_wp2_with fail
     go_quiet (fail)
     go_wp2_with fail
     generalize hq1:wr.drewN nq=W2 at*
     have HB2:Hid (Below wy.heap.size wy W2):=by rw [←hq1];exact zqh HBx.out _
     have x4:=HX3.out W2 HB2.out
     have p4:=HP0.out W2 HB2.out
     clear x3 p0 x3' p0' hq1
     have hq3:∀ q,Below wy.heap.size wy (W2.drewN q):=fun q=>zqh HB2.out q
     have p5:∀ q,(W2.drewN q).cell? ⟨g,1,none⟩=some (.slice va (List.range i).length vc):=fun q=>((hq3 q).cell (p:=⟨g,1,none⟩) hg).trans HP1.out.1
     have HQ3:Hid _:=hq3
     clear hq3
     rw [List.length_range] at p5
     go_quiet (fail)
     have HB3:Hid (Below wy.heap.size wy (W2.drewN nq)):=HQ3.out nq
     have p6:=p5 nq
     generalize W2.drewN nq=W3 at*
     have hP3:=HP.out.on HB3.out
     have hat:=hP3.at_
     rw [List.length_range] at hat
     have hsz:w1.heap.size≤W3.heap.size:=Nat.le_trans HB.out.size HB3.out.size
     obtain ⟨a7,c7,w7,hap,own7,hk7⟩:=zla false W3 w1.heap.size va i vc (zea (List.range i)) (i:Int) hat (by omega) hsz
     have hap':(Builtin.append_ #[43,43] 43 #[.slice va i vc,.slice (some ⟨W3.heap.size,0,none⟩) 1 1]).run Tryz.prog (W3.alloc (.cells #[.int .i64 (i:Int)] 3))=.ok (.slice a7 (i+1) c7) w7:=hap
     have hrow7:=zmP hP3.row hk7 (jne hP3.row hat (by decide))
     have hP7:OneP w7 w1.heap.size (some ⟨g,0,none⟩) c0 va vc (List.range i)∨True:=.inr trivial
     obtain ⟨s1,s2⟩:w7.cell? ⟨g,1,none⟩=some (.slice va i vc)∧w7.frozen? ⟨g,1,none⟩=false:=by
      have c1:=hrow7.cells (g:=g) rfl 1 _ rfl
      rw [Addr.add_lit,Nat.zero_add,List.length_range] at c1
      refine ⟨c1,?_⟩
      rcases hrow7.2 with ⟨h1,_⟩ | ⟨g',cap',cur,h1,_,hgb',_⟩
      · cases h1
      · injection h1 with h1;injection h1 with h1;injection h1 with h1;subst h1
        exact zBn hgb' 1
     have hgown:∀ q,(Value.slice a7 (i+1) c7).ownBlock=some q→q≠g:=by
      intro q hq e
      subst e
      exact jne own7 hrow7 (by decide) q hq (by simp [Value.ownBlock])
     have hb7:Below w1.heap.size w1 w7:=(HB.out.trans (HB3.out.mono HB.out.size)).trans (hk7.below hsz (fun q hq=>(hat.lt q (by simpa using hq)).1))
     have H7:Hid _:=(⟨own7,hrow7,hgown,hb7⟩:_∧_∧_∧_)
     clear hap own7 hk7 hP3 hat hrow7 hgown hb7 hP7 p5
     go_wp2_with (at_builtin;refine zOu rfl _ _ 43 rfl _ _ _ _ rfl rfl hap' ?_)
     obtain ⟨own7,hrow7,hgown,hb7⟩:=H7.out
     have hkE:Kept [g] w7 (w7.setCell ⟨g,1,none⟩ (.slice a7 (i+1) c7)):=(Kept.refl _ _).setCell (p:=⟨g,1,none⟩) (Or.inl (by simp)) _
     have hR:=zUj hrow7 1 (.slice a7 (i+1) c7) (by simp)
     have hN:OneP (w7.setCell ⟨g,1,none⟩ (.slice a7 (i+1) c7)) w1.heap.size (some ⟨g,0,none⟩) c0 a7 c7 (List.range (i+1)):=by
      refine ⟨?_,?_⟩
      · rw [List.length_range];exact hR
      · rw [List.length_range,List.range_succ,zyv]
        exact zmP own7 hkE (fun q hq=>by simpa using hgown q hq)
     have HN:Hid _:=(⟨hN,hb7.trans (hkE.below hb7.size (by simp;exact hgb))⟩:_∧_)
     clear own7 hrow7 hgown hb7 hkE hR hN
     go_wp2_with fail
     go_roundw
     case rel=>exact ⟨i+1,a7,c7,rfl,by go_num,by omega,HN.out.1,HN.out.2⟩
     case measure=>simp [intOf];omega
  · have hin':¬ (i:Int) < (ops.length:Int):=by omega
    obtain rfl:i=ops.length:=by omega
    go_wp2_with fail
    go_ret
    exact ⟨some ⟨g,0,none⟩,c0,rfl,⟨va,vc,HP.out⟩,HB.out⟩
theorem zUm (s wth t:List UInt8) (hs:s=wth++t++[10]) (hl:s.length≤9000000) (w:World):
 Calls Tryz.prog 14 #[.string ⟨s.toArray⟩,.string ⟨wth.toArray⟩] w fun e w'=>e=.returned (.tuple #[.string ⟨t.toArray⟩,.bool true])∧Below w.heap.size w w':=by
 have hsl:s.length=wth.length+t.length+1:=by rw [hs];simp;omega
 have h1:¬ (s.length:Int) < (wth.length:Int)+1:=by omega
 have h1':decide ((s.length:Int) < (wth.length:Int)+1)=false:=by simpa using h1
 have hw1:IntKind.i64.wrap ((wth.length:Int)+1)=(wth.length:Int)+1:=j64 (by omega) (by omega)
 obtain ⟨q,hq⟩:∃ q,s.length=q+1:=⟨wth.length+t.length,by omega⟩
 have hwq:IntKind.i64.wrap ((s.length:Int) - 1)=(q:Int):=by rw [j64 (by omega) (by omega)];omega
 have hqs:(q:Int) < (s.length:Int):=by omega
 have hqs2:(q:Int)≤(s.length:Int):=by omega
 have hlw:(wth.length:Int)≤(s.length:Int):=by omega
 have hlq:(wth.length:Int)≤(q:Int):=by omega
 have hex:(⟨s.toArray⟩:ByteArray).extract 0 wth.length=⟨wth.toArray⟩:=by
  rw [Lib.extract_eq,hs];simp
 have hex2:(⟨s.toArray⟩:ByteArray).extract wth.length q=⟨t.toArray⟩:=by
  rw [Lib.extract_eq]
  have:List.take (q - wth.length) (List.drop wth.length s)=t:=by
   rw [hs,List.append_assoc,List.drop_left]
   exact List.take_left' (by omega)
  rw [←this]
 have hsz1:q < (⟨s.toArray⟩:ByteArray).size:=by show q < s.toArray.size;simp;omega
 have hby:((((⟨s.toArray⟩:ByteArray)[q]'hsz1).toNat:Int) == 10)=true:=by
  have e1:(⟨s.toArray⟩:ByteArray)[q]'hsz1=s[q]'(by omega):=by show s.toArray[q]'(by simp;omega)=_;simp
  have e2:s[q]?=some 10:=by rw [hs,List.getElem?_append_right (by simp;omega),show q - (wth++t).length=0 by simp;omega];rfl
  rw [List.getElem?_eq_getElem (by omega)] at e2
  injection e2 with e2
  rw [e1,e2];decide
 have hbn:((((⟨s.toArray⟩:ByteArray)[q]'hsz1).toNat:Int) != 10)=false:=by rw [bne,hby];rfl
 have HQ:Hid _:=(⟨hs,hq,hsl⟩:_∧_∧_)
 clear hs hq hsl h1
 go_enter Tryz.func14,Tryz.ntmps14
 go_wp2_with fail
 go_ret2
 exact ⟨rfl,Below.refl _ _⟩
theorem zgE (s wth:List UInt8) (h:s.take wth.length≠wth) (_hl:s.length≤9000000) (hwl:wth.length≤9000000) (w:World):
 Calls Tryz.prog 14 #[.string ⟨s.toArray⟩,.string ⟨wth.toArray⟩] w fun e w'=>e=.returned (.tuple #[.string ⟨#[]⟩,.bool false])∧Below w.heap.size w w':=by
 have hw1:IntKind.i64.wrap ((wth.length:Int)+1)=(wth.length:Int)+1:=j64 (by omega) (by omega)
 by_cases h0:s.length < wth.length+1
 · have h1:decide ((s.length:Int) < (wth.length:Int)+1)=true:=by simp;omega
   clear h
   go_enter Tryz.func14,Tryz.ntmps14
   go_wp2_with fail
   go_ret2
   exact ⟨rfl,Below.refl _ _⟩
 · have h1:decide ((s.length:Int) < (wth.length:Int)+1)=false:=by simp;omega
   have hlw:(wth.length:Int)≤(s.length:Int):=by omega
   have hex:(⟨s.toArray⟩:ByteArray).extract 0 wth.length=⟨(s.take wth.length).toArray⟩:=by
    rw [Lib.extract_eq];simp
   have hne:(s.take wth.length == wth)=false:=by simpa using h
   have hnn:(s.take wth.length != wth)=true:=by simpa using h
   generalize s.take wth.length=z at*
   clear h
   go_enter Tryz.func14,Tryz.ntmps14
   go_wp2_with fail
   go_ret2
   exact ⟨rfl,Below.refl _ _⟩
def roomP (k:Nat):Nat:=1000000 / (2*(k+1))
theorem zhE (k:Nat):roomP k≤500000:=by
 unfold roomP
 have:1000000 / (2*(k+1))≤1000000 / 2:=Nat.div_le_div_left (by omega) (by decide)
 omega
theorem zKP (k:Nat) (hk:k≤1000) (w:World):
 Calls Tryz.prog 33 #[.int .i64 (k:Int)] w fun e w'=>e=.returned (.int .i64 (roomP k:Int))∧w'=w:=by
 have h1:IntKind.i64.wrap ((k:Int)+1)=(k:Int)+1:=j64 (by omega) (by omega)
 have h2:IntKind.i64.wrap (2*((k:Int)+1))=2*((k:Int)+1):=j64 (by omega) (by omega)
 have h3:Int.tdiv 1000000 (2*((k:Int)+1))=(roomP k:Int):=by
  rw [Int.tdiv_eq_ediv_of_nonneg (by omega)]
  unfold roomP
  simp
 have h4:(2*((k:Int)+1) == 0)=false:=by rw [beq_eq_false_iff_ne];omega
 have hr:=zhE k
 have h5:IntKind.i64.wrap (roomP k:Int)=(roomP k:Int):=j64 (by omega) (by omega)
 generalize roomP k=r at*
 go_enter Tryz.func33,Tryz.ntmps33
 go_wp2_with fail
 go_ret
 exact ⟨rfl,rfl⟩
theorem zOA (ops:List OpV):zrE ops (List.range ops.length) ops:=⟨by simp,fun i o h=>⟨i,by rw [List.getElem?_range (List.getElem?_eq_some_iff.1 h).1],h⟩⟩
theorem OneP.iat {w:World} {base:Nat} {a:Option Addr} {c:Nat} {va:Option Addr} {vc:Nat} {l:List Nat} (h:OneP w base a c va vc l):IAt w va l:=by
 intro hne
 rcases zzD h.at_ with ⟨_,e⟩ | ⟨g,cap,e,_,hb,hg⟩
 · exact absurd (List.length_eq_zero_iff.1 e) hne
 · injection e with e
   subst e
   exact ⟨g,rfl,hg,fun j x hj=>z99 h.at_ hj⟩
end Go.Proofs.YtbbkihekjdffpaaGreatDoor.jd
