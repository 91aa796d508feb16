/- Several texts in one. -/
import Derived.Test.YtlkidmafomjhgaaGreatDoorKeepLX
import Derived.Test.YtlkidmafomjhgaaGreatDoorKeepZc
set_option maxHeartbeats 4000000
set_option maxRecDepth 100000
namespace Go.Proofs.YtlkidmafomjhgaaGreatDoor.keep
open Go.RowKit
def zq9 (ops:List OpV):Prop:=∀ (a b:Nat) (x y:OpV),ops[a]?=some x→ops[b]?=some y→(x.call=y.call→a=b)∧(x.ret≠0→x.ret≠y.call∧(x.ret=y.ret→a=b))
def OK1 (n:Nat) (keys:List Nat) (ops:List OpV):Prop:=∀ (j:Nat) (o:OpV),ops[j]?=some o→∃ kk,keys[j]?=some kk∧kk < 3∧(-20≤o.id∧o.id≤1000)∧(-1≤o.cl∧o.cl≤1)∧small o.arg∧small o.exp∧o.name.length≤5∧(1≤o.call∧o.call≤(n:Int))∧(o.ret≠0→1≤o.ret∧o.ret≤(n:Int)∧zVP o.vk o.vn)
theorem Turned.ok1 {i:Nat} (hi:i < 5) {ops0 ops:List OpV} {lines0 lines:List (List UInt8)} {keys:List Nat} (h:Tells i ops0 lines0) (hl:lines0.length≤100) (t:Turned ops0 ops lines0 lines) (hk:KL i keys ops0):OK1 lines.length keys ops∧zq9 ops:=by
 obtain ⟨f1,f2,f3⟩:=t.form hi h
 have back:∀ (j:Nat) (o:OpV),ops[j]?=some o→∃ o0,ops0[j]?=some o0∧∃ vk vn,o={ o0 with vk:=vk,vn:=vn }:=by
  intro j o hj
  cases hj0:ops0[j]? with
  | none=>rw [List.getElem?_eq_none (by rw [f2];exact List.getElem?_eq_none_iff.1 hj0)] at hj;cases hj
  | some o0=>
    obtain ⟨vk,vn,e,_⟩:=f3 j o0 hj0
    rw [hj] at e
    injection e with e
    exact ⟨o0,rfl,vk,vn,e⟩
 constructor
 · intro j o hj
   obtain ⟨o0,hj0,vk,vn,rfl⟩:=back j o hj
   obtain ⟨vk',vn',e,_,g,_⟩:=f3 j o0 hj0
   rw [hj] at e
   injection e with e
   injection e with _ _ _ _ _ _ _ _ e1 e2
   subst e1;subst e2
   obtain ⟨kk,hk1,hk2,_⟩:=hk.2 j o0 hj0
   have hid:=h.ids j o0 hj0
   have hlt:=(List.getElem?_eq_some_iff.1 hj0).1
   have hle:=h.len
   have hin:=h.lines_in o0 (List.mem_of_getElem? hj0)
   obtain ⟨⟨k,hk',hn⟩,ha,he,_,_⟩:=h.gives hi o0 (List.mem_of_getElem? hj0)
   refine ⟨kk,hk1,hk2,⟨by show -20≤o0.id;omega,by show o0.id≤1000;omega⟩,hin.2.2.2,ha,he,by show o0.name.length≤5;rw [hn];exact z1j i k,⟨hin.1,by rw [f1];exact hin.2.1⟩,fun hz=>⟨(hin.2.2.1 hz).1,by rw [f1];exact (hin.2.2.1 hz).2,z3e ((g hz).1 k hk' hn)⟩⟩
 · intro a b' x y hx hy
   obtain ⟨x0,hx0,_,_,rfl⟩:=back a x hx
   obtain ⟨y0,hy0,_,_,rfl⟩:=back b' y hy
   exact h.apart a b' x0 y0 hx0 hy0
end Go.Proofs.YtlkidmafomjhgaaGreatDoor.keep
namespace Go.Proofs.YtlkidmafomjhgaaGreatDoor.keep
open Go.RowKit
open srch (renO zkp Pow zVT zqC sOK sIll)
theorem Turned.self {i:Nat} (hi:i < 5) {ops0 ops:List OpV} {lines0 lines:List (List UInt8)} (h:Tells i ops0 lines0) (hl:lines0.length≤18) (t:Turned ops0 ops lines0 lines):TellsG i ops lines:=by
 obtain ⟨f1,f2,f3⟩:=t.form hi h
 have back:∀ (j:Nat) (o:OpV),ops[j]?=some o→∃ o0,ops0[j]?=some o0∧∃ vk vn,o={ o0 with vk:=vk,vn:=vn }:=by
  intro j o hj
  cases hj0:ops0[j]? with
  | none=>rw [List.getElem?_eq_none (by rw [f2];exact List.getElem?_eq_none_iff.1 hj0)] at hj;cases hj
  | some o0=>
    obtain ⟨vk,vn,e,_⟩:=f3 j o0 hj0
    rw [hj] at e
    injection e with e
    exact ⟨o0,rfl,vk,vn,e⟩
 have g1:=t.again hi h (fun n=>n) (fun n=>n) (fun _ _ h=>h) (fun n hn=>⟨by omega,by omega⟩) (fun _ _ h=>h) (fun c hc=>⟨by omega,by omega⟩) lines (by omega) f1
  (fun j o hj kk h1 h2 h3=>by
   obtain ⟨o0,hj0,vk,vn,rfl⟩:=back j o hj
   obtain ⟨_,_,_,_,_,g⟩:=f3 j o0 hj0
   exact g kk h1 h2 h3)
  (fun j o hj hz=>by
   obtain ⟨o0,hj0,vk,vn,rfl⟩:=back j o hj
   obtain ⟨vk',vn',e,_,g,_⟩:=f3 j o0 hj0
   rw [hj] at e
   injection e with e
   injection e with _ _ _ _ _ _ _ _ e1 e2
   subst e1;subst e2
   exact (g hz).2)
 have e0:ops.map (renO (fun n=>n) (fun n=>n))=ops:=List.map_id'' (fun o=>rfl) ops
 rw [e0] at g1
 exact g1
theorem zOE {W:World} {base b:Nat} {e t:TypeId} {size:Nat} {v:Value} {n:Nat} {xs:List Value} {c:Array Value} (h:W.ownsRow base e size v n xs) (hB:W.heap[b]?=some (.cells c t (0,0))) (hne:e≠t):∀ g,v.ownBlock=some g→g∉[b]:=by
 intro g hg hm
 rw [List.mem_singleton] at hm
 subst hm
 rcases h.2 with ⟨rfl,_⟩ | ⟨g1,cap,cur,rfl,_,hb1,_⟩
 · cases hg
 · injection hg with hg
   subst hg
   rw [hB] at hb1
   injection hb1 with hb1
   injection hb1 with _ h2
   exact hne h2.symm
theorem zYT (x r:List UInt8) (e:x=sOK++32::r) (w:World):Calls Tryz.prog 14 #[.string ⟨x.toArray⟩] w fun e w'=>e=.returned (.string ⟨#[79,75]⟩)∧w'=w:=by
 subst e
 have h:=zJWR (sOK++32::r) w 2 (by decide) (by simp [sOK]) (.inl rfl)
 rw [zwzb] at h
 exact h
theorem z5Y (x r:List UInt8) (e:x=sIll++32::r) (w:World):Calls Tryz.prog 14 #[.string ⟨x.toArray⟩] w fun e w'=>e=.returned (.string ⟨#[73,76,76,69,71,65,76]⟩)∧w'=w:=by
 subst e
 have h:=zJWR (sIll++32::r) w 7 (by decide) (by simp [sIll]) (.inl rfl)
 rw [zhr] at h
 exact h
end Go.Proofs.YtlkidmafomjhgaaGreatDoor.keep
namespace Go.Proofs.YtlkidmafomjhgaaGreatDoor.keep
open Go.RowKit
open srch (qKey)
theorem zUk (t r:List UInt8) (s:List UInt8) (hs:s=t++r) (w:World):
 Calls Tryz.prog 17 #[.string ⟨s.toArray⟩,.string ⟨t.toArray⟩] w fun e w'=>e=.returned (.bool true)∧w'=w:=by
 have h1:(t.length:Int)≤(s.length:Int):=by rw [hs,List.length_append];omega
 have hex:(⟨s.toArray⟩:ByteArray).extract 0 t.length=⟨t.toArray⟩:=by
  rw [Lib.extract_eq,hs];simp
 clear hs
 go_enter Tryz.func17,Tryz.ntmps17
 go_wp2_with fail
 go_ret
 exact ⟨rfl,rfl⟩
theorem zy5 (i:Nat) (hi:i < 5) (hkd:zSt i=true) (k:Nat) (hk:k < 3) (w:World):
 Calls Tryz.prog 18 #[.string ⟨(modS i).toArray⟩,.int .i64 (k:Int)] w fun e w'=>e=.returned (.string ⟨(qKey (keyS k)).toArray⟩)∧Below w.heap.size w w':=by
 have hky:=fun W=>zUa i hi W
 rw [hkd] at hky
 obtain rfl | rfl | rfl:k=0∨k=1∨k=2:=by omega
 all_goals
  go_enter Tryz.func18,Tryz.ntmps18
  go_wp2_with fail
  refine (hky _).mono ?_
  rintro e w1 ⟨rfl,rfl⟩
  go_wp2_with fail
  go_ret
  exact ⟨rfl,(Below.refl _ _).alloc (Nat.le_refl _) _⟩
end Go.Proofs.YtlkidmafomjhgaaGreatDoor.keep
namespace Go.Proofs.YtlkidmafomjhgaaGreatDoor.keep
open Go.RowKit
open srch (zOu)
theorem zBB (W:World) (base:Nat) (a:Option Addr) (n c:Nat) (xs:List Value) (s:List UInt8) (h:W.ownsRow base 9 1 (.slice a n c) n xs) (hn:n≤3000000) (hb:base≤W.heap.size):
 ∃ a' c' w',(Builtin.append_ #[24,24] 24 #[.slice a n c,.slice (some ⟨W.heap.size,0,none⟩) 1 1]).run Tryz.prog (W.alloc (.cells #[.string ⟨s.toArray⟩] 9))=.ok (.slice a' (n+1) c') w'∧w'.ownsRow base 9 1 (.slice a' (n+1) c') (n+1) (xs++[.string ⟨s.toArray⟩])∧Below base W w':=by
 obtain ⟨i0,hi0',hz0,hz1,hz2⟩:=info_parts strInfo
 obtain ⟨v7,w7,h1,h2,h3,_⟩:=run_append_own (P:=Tryz.prog) (W.alloc (.cells ([.string ⟨s.toArray⟩]:List Value).toArray 9)) base 24 24 9 i0 _ 1 16 Tryz.underlying24 hi0' hz0 hz1 hz2 rfl (by decide) (.slice a n c) n xs (h.alloc _) ⟨W.heap.size,0,none⟩ 1 1 [.string ⟨s.toArray⟩] rfl (z9R W _ _) (by intro u hu;simp at hu;subst hu;rfl) (by unfold maxLen;omega) (by omega) (by simp;omega)
 obtain ⟨a',c',rfl⟩:=zIW h2
 have hk:Kept (Value.slice a n c).ownBlock.toList W w7:=((Kept.refl _ W).alloc _).grownS h3 (fun g' hg'=>by rw [hg'];simp)
 exact ⟨a',c',w7,h1,h2,hk.below hb (fun g hg=>zYv h g (by simpa using hg))⟩
def cnB (ops:List OpV) (keys:List Nat) (k p a:Nat):Bool:=decide (keys[a]?=some k)&&(match ops[a]? with | some o=>decide (o.call=(p:Int)+1)||decide (o.ret=(p:Int)+1) | none=>false)
def inP (ops:List OpV) (keys:List Nat) (lines:List (List UInt8)) (k p a:Nat):List (List UInt8):=(List.range a).flatMap (fun q=>if cnB ops keys k p q=true then [lines.getD p []] else [])
def outP (ops:List OpV) (keys:List Nat) (lines:List (List UInt8)) (k p:Nat):List (List UInt8):=(List.range p).flatMap (fun q=>inP ops keys lines k q ops.length)
theorem zpP (ops:List OpV) (keys:List Nat) (lines:List (List UInt8)) (k p a:Nat):inP ops keys lines k p (a+1)=inP ops keys lines k p a++(if cnB ops keys k p a=true then [lines.getD p []] else []):=by
 unfold inP
 rw [List.range_succ,List.flatMap_append]
 simp
theorem zQC (ops:List OpV) (keys:List Nat) (lines:List (List UInt8)) (k p:Nat):outP ops keys lines k (p+1)=outP ops keys lines k p++inP ops keys lines k p ops.length:=by
 unfold outP
 rw [List.range_succ,List.flatMap_append]
 simp
theorem zAG (ops:List OpV) (keys:List Nat) (lines:List (List UInt8)) (k p:Nat):∀ a,(inP ops keys lines k p a).length≤a:=by
 intro a
 induction a with
 | zero=>exact Nat.le_refl _
 | succ a ih=>rw [zpP,List.length_append];split <;> simp <;> omega
theorem zQL (ops:List OpV) (keys:List Nat) (lines:List (List UInt8)) (k:Nat):∀ p,(outP ops keys lines k p).length≤p*ops.length:=by
 intro p
 induction p with
 | zero=>simp [outP]
 | succ p ih=>rw [zQC,List.length_append,Nat.succ_mul];have:=zAG ops keys lines k p ops.length;omega
theorem zGt (i:Nat) (vo vl vk:Value) (ops:List OpV) (lines:List (List UInt8)) (keys:List Nat) (base:Nat) (k:Nat) (w:World) (hl:lines.length≤100) (hol:ops.length≤100) (hkl:keys.length=ops.length)
 (ho:w.ownsRow base 48 10 vo ops.length (opsRow ops)) (hln:w.ownsRow base 9 1 vl lines.length (strCells lines)) (hky:w.ownsRow base 3 1 vk keys.length (zXD keys)):
 Calls Tryz.prog 16 #[.agg #[.string ⟨(modS i).toArray⟩,vo,vl,vk],.int .i64 (k:Int)] w fun e w'=>∃ a c,e=.returned (.slice a (outP ops keys lines k lines.length).length c)∧w'.ownsRow w.heap.size 9 1 (.slice a (outP ops keys lines k lines.length).length c) (outP ops keys lines k lines.length).length (strCells (outP ops keys lines k lines.length))∧Below w.heap.size w w':=by
 obtain ⟨lo,lc,rfl⟩:=zIW hln
 obtain ⟨oo,oc,rfl⟩:=zIW ho
 obtain ⟨ko,kc,rfl⟩:=zIW hky
 obtain ⟨W1,hW1,hb1,hT1⟩:∃ W1,w.alloc (.cells #[.string ⟨(modS i).toArray⟩,.slice oo ops.length oc,.slice lo lines.length lc,.slice ko keys.length kc] 26)=W1∧Below w.heap.size w W1∧
  W1.heap[w.heap.size]?=some (.cells #[.string ⟨(modS i).toArray⟩,.slice oo ops.length oc,.slice lo lines.length lc,.slice ko keys.length kc] 26 (0,0)):=⟨_,rfl,(Below.refl _ _).alloc (Nat.le_refl _) _,ziF _ _ _ rfl⟩
 have HA:Hid _:=(⟨ho,hln,hky,hb1,hT1,hkl⟩:_∧_∧_∧_∧_∧_)
 have hz1:w.heap.size < W1.heap.size:=zBq hT1
 clear ho hln hky hb1 hT1 hkl
 go_enter Tryz.func16,Tryz.ntmps16
 go_wp2_with fail
 go_loopw [5,6] (fun s5 s6 wr=>∃ (p:Nat) (a:Option Addr) (c n:Nat),s5=.slice a n c∧s6=.int .i64 ((p:Int)+1)∧p≤lines.length∧Hid (n=(outP ops keys lines k p).length∧wr.ownsRow W1.heap.size 9 1 (.slice a n c) n (strCells (outP ops keys lines k p))∧Below W1.heap.size W1 wr)) (fun _ s6 _=>lines.length+1 - (intOf s6).toNat)
 case atStart=>exact ⟨0,none,0,0,rfl,rfl,by omega,rfl,World.ownsRow_nil _ _ _ _,Below.refl _ _⟩
 case round=>
  obtain ⟨p,a,c,n,rfl,rfl,hp,HI⟩:=hrel
  have hT:=(HI.out.2.2.block _ hz1).trans HA.out.2.2.2.2.1
  have t2:wr.cell? ⟨w.heap.size,2,none⟩=some (.slice lo lines.length lc):=zBk hT 2
  have hbd:outP ops keys lines k p=outP ops keys lines k p:=rfl
  by_cases hin:p < lines.length
  · have hin':(p:Int)+1≤(lines.length:Int):=by omega
    have hwp:IntKind.i64.wrap ((p:Int)+1 - 1)=(p:Int):=by rw [z6Xb (by omega) (by omega)];omega
    obtain ⟨gl,rfl,hgl⟩:∃ g,lo=some ⟨g,0,none⟩∧g < w.heap.size:=by
     rcases zzD HA.out.2.1 with ⟨_,e⟩ | ⟨g,cap,e,_,_,e2⟩
     · omega
     · injection e with e;exact ⟨g,e,e2⟩
    clear hT hbd
    have t2':=t2
    go_wp2_with fail
    go_loopw [5,7] (fun s5 s7 wx=>∃ (q:Nat) (a:Option Addr) (c m:Nat),s5=.slice a m c∧s7=.int .i64 (q:Int)∧q≤ops.length∧Hid (m=(outP ops keys lines k p++inP ops keys lines k p q).length∧wx.ownsRow W1.heap.size 9 1 (.slice a m c) m (strCells (outP ops keys lines k p++inP ops keys lines k p q))∧Below W1.heap.size W1 wx)) (fun _ s7 _=>ops.length - (intOf s7).toNat)
    case atStart=>exact ⟨0,a,c,n,rfl,rfl,by omega,by
     have h0:inP ops keys lines k p 0=[]:=rfl
     rw [h0,List.append_nil];exact HI.out⟩
    case round=>
     clear t2 t2' HI
     obtain ⟨q,a,c,m,rfl,rfl,hq,HI⟩:=hrel
     have hT:=(HI.out.2.2.block _ hz1).trans HA.out.2.2.2.2.1
     have t1:wr.cell? ⟨w.heap.size,1,none⟩=some (.slice oo ops.length oc):=zBk hT 1
     have t2:wr.cell? ⟨w.heap.size,2,none⟩=some (.slice (some ⟨gl,0,none⟩) lines.length lc):=zBk hT 2
     have t3:wr.cell? ⟨w.heap.size,3,none⟩=some (.slice ko keys.length kc):=zBk hT 3
     by_cases hqi:q < ops.length
     · have hqi':(q:Int) < (ops.length:Int):=by omega
       have hkl:=HA.out.2.2.2.2.2
       obtain ⟨o,hoq⟩:∃ o,ops[q]?=some o:=⟨_,List.getElem?_eq_getElem hqi⟩
       have hoe:ops[q]=o:=by rw [List.getElem?_eq_getElem hqi] at hoq;injection hoq
       obtain ⟨kk,hkq⟩:∃ kk,keys[q]?=some kk:=⟨_,List.getElem?_eq_getElem (by omega)⟩
       have hqk:q < keys.length:=by omega
       have hqk':(q:Int) < (keys.length:Int):=by omega
       obtain ⟨g,rfl,hg⟩:∃ g,oo=some ⟨g,0,none⟩∧g < w.heap.size:=by
        rcases zzD HA.out.1 with ⟨_,e⟩ | ⟨g,cap,e,_,_,e2⟩
        · omega
        · injection e with e;exact ⟨g,e,e2⟩
       obtain ⟨gk,rfl,hgk⟩:∃ g,ko=some ⟨g,0,none⟩∧g < w.heap.size:=by
        rcases zzD HA.out.2.2.1 with ⟨_,e⟩ | ⟨g,cap,e,_,_,e2⟩
        · omega
        · injection e with e;exact ⟨g,e,e2⟩
       have hold:Below w.heap.size w wr:=HA.out.2.2.2.1.trans (HI.out.2.2.mono (by omega))
       have x6:wr.cell? ⟨g,q*10+6,none⟩=some (.int .i64 o.call):=(hold.cell (p:=⟨g,q*10+6,none⟩) hg).trans (zDA HA.out.1 _ _ ((zvc ops q hqi 6 (by decide)).trans (by rw [hoe];rfl)))
       have x7:wr.cell? ⟨g,q*10+7,none⟩=some (.int .i64 o.ret):=(hold.cell (p:=⟨g,q*10+7,none⟩) hg).trans (zDA HA.out.1 _ _ ((zvc ops q hqi 7 (by decide)).trans (by rw [hoe];rfl)))
       have xk:wr.cell? ⟨gk,q,none⟩=some (.int .i64 (kk:Int)):=by
        refine (hold.cell (p:=⟨gk,q,none⟩) hgk).trans ?_
        have:=HA.out.2.2.1.cells (g:=gk) rfl q (.int .i64 (kk:Int)) (by unfold zXD;rw [List.getElem?_map,hkq];rfl)
        rw [Addr.add_lit,Nat.zero_add] at this
        exact this
       have xl:wr.cell? ⟨gl,p,none⟩=some (.string ⟨(lines.getD p []).toArray⟩):=by
        refine (hold.cell (p:=⟨gl,p,none⟩) hgl).trans ?_
        have:=HA.out.2.1.cells (g:=gl) rfl p (.string ⟨(lines.getD p []).toArray⟩) (by unfold strCells;rw [List.getElem?_map,List.getD,List.getElem?_eq_getElem hin];rfl)
        rw [Addr.add_lit,Nat.zero_add] at this
        exact this
       have hcn:Hid (cnB ops keys k p q=(decide (kk=k)&&(decide (o.call=(p:Int)+1)||decide (o.ret=(p:Int)+1)))):=by
        show _=_
        unfold cnB
        rw [hkq,hoq]
        simp
       have hmax:m≤100*100+100:=by
        rw [HI.out.1,List.length_append]
        have h1:=zQL ops keys lines k p
        have h2:=zAG ops keys lines k p q
        have h3:p*ops.length≤100*100:=Nat.mul_le_mul (by omega) hol
        omega
       have hsk:cnB ops keys k p q=false→Hid (m=(outP ops keys lines k p++inP ops keys lines k p (q+1)).length∧wr.ownsRow W1.heap.size 9 1 (.slice a m c) m (strCells (outP ops keys lines k p++inP ops keys lines k p (q+1)))∧Below W1.heap.size W1 wr):=fun h=>by
        have e:inP ops keys lines k p (q+1)=inP ops keys lines k p q:=by rw [zpP,if_neg (by rw [h];simp),List.append_nil]
        rw [e];exact HI
       obtain ⟨a',c',w7,hap,hown7,hb7⟩:=zBB wr W1.heap.size a m c _ (lines.getD p []) HI.out.2.1 (by omega) HI.out.2.2.size
       have hgo:cnB ops keys k p q=true→Hid (m+1=(outP ops keys lines k p++inP ops keys lines k p (q+1)).length∧w7.ownsRow W1.heap.size 9 1 (.slice a' (m+1) c') (m+1) (strCells (outP ops keys lines k p++inP ops keys lines k p (q+1)))∧Below W1.heap.size W1 w7):=fun h=>by
        have e:outP ops keys lines k p++inP ops keys lines k p (q+1)=(outP ops keys lines k p++inP ops keys lines k p q)++[lines.getD p []]:=by rw [zpP,if_pos h,List.append_assoc]
        rw [e]
        refine ⟨by rw [List.length_append,List.length_singleton,←HI.out.1],?_,HI.out.2.2.trans hb7⟩
        rw [zBt];exact hown7
       have HSK:Hid _:=hsk
       have HGO:Hid _:=hgo
       generalize lines.getD p []=lp at*
       clear hsk hgo hown7 hb7 hT hoe hold hkl hkq hoq hg hgk
       by_cases b1:kk=k
       · have b1':((kk:Int) == (k:Int))=true:=by simp [b1]
         by_cases b2:o.call=(p:Int)+1
         · have b2':(o.call == (p:Int)+1)=true:=by simp [b2]
           have HN:=HGO.out (by rw [hcn.out];simp [b1,b2])
           clear b1 b2 HSK HGO hcn
           go_wp2_with (at_builtin;refine zOu rfl _ _ 24 rfl _ _ _ _ rfl rfl hap ?_)
           go_roundw
           case rel=>exact ⟨q+1,a',c',m+1,rfl,by go_num,by omega,HN⟩
           case measure=>simp [intOf];omega
         · have b2':(o.call == (p:Int)+1)=false:=by simp [b2]
           by_cases b3:o.ret=(p:Int)+1
           · have b3':(o.ret == (p:Int)+1)=true:=by simp [b3]
             have HN:=HGO.out (by rw [hcn.out];simp [b1,b3])
             clear b1 b2 b3 HSK HGO hcn
             go_wp2_with (at_builtin;refine zOu rfl _ _ 24 rfl _ _ _ _ rfl rfl hap ?_)
             go_roundw
             case rel=>exact ⟨q+1,a',c',m+1,rfl,by go_num,by omega,HN⟩
             case measure=>simp [intOf];omega
           · have b3':(o.ret == (p:Int)+1)=false:=by simp [b3]
             have HN:=HSK.out (by rw [hcn.out];simp [b2,b3])
             clear b1 b2 b3 HSK HGO hcn hap
             go_wp2_with fail
             go_roundw
             case rel=>exact ⟨q+1,a,c,m,rfl,by go_num,by omega,HN⟩
             case measure=>simp [intOf];omega
       · have b1':((kk:Int) == (k:Int))=false:=by simp;omega
         have HN:=HSK.out (by rw [hcn.out];simp [b1])
         clear b1 HSK HGO hcn hap
         go_wp2_with fail
         go_roundw
         case rel=>exact ⟨q+1,a,c,m,rfl,by go_num,by omega,HN⟩
         case measure=>simp [intOf];omega
     · have hqi':¬ (q:Int) < (ops.length:Int):=by omega
       obtain rfl:q=ops.length:=by omega
       have HN:Hid (m=(outP ops keys lines k (p+1)).length∧wr.ownsRow W1.heap.size 9 1 (.slice a m c) m (strCells (outP ops keys lines k (p+1)))∧Below W1.heap.size W1 wr):=by rw [zQC];exact HI
       clear hT
       go_wp2_with fail
       go_roundw
       case rel=>exact ⟨p+1,a,c,m,rfl,by go_num,by omega,HN⟩
       case measure=>simp [intOf];omega
  · have hin':¬ (p:Int)+1≤(lines.length:Int):=by omega
    obtain rfl:p=lines.length:=by omega
    clear hT hbd
    go_wp2_with fail
    go_ret
    obtain ⟨rfl,h2,h3⟩:=HI.out
    exact ⟨a,c,rfl,z5S h2 (by omega),HA.out.2.2.2.1.trans (h3.mono (by omega))⟩
end Go.Proofs.YtlkidmafomjhgaaGreatDoor.keep
namespace Go.Proofs.YtlkidmafomjhgaaGreatDoor.keep
open Go.RowKit
theorem zMq {α β:Type} (b:α→Bool) (f:α→β) (l:List α):l.flatMap (fun p=>if b p=true then [f p] else [])=(l.filter b).map f:=by
 induction l with
 | nil=>rfl
 | cons a t ih=>
   rw [List.flatMap_cons,List.filter_cons,ih]
   by_cases h:b a=true
   · rw [if_pos h,if_pos h];rfl
   · rw [if_neg h,if_neg h];rfl
theorem zKx {l:List Nat} (hn:l.Nodup) (hu:∀ a∈l,∀ b∈l,a=b) (hne:l≠[]):∃ a,l=[a]:=by
 match l,hn,hu,hne with
 | [a],_,_,_=>exact ⟨a,rfl⟩
 | a::b::t,hn,hu,_=>
   have e:=hu a (by simp) b (by simp)
   subst e
   exact absurd (by simp) (List.nodup_cons.1 hn).1
theorem znG {i:Nat} (hi:i < 5) (hkd:zSt i=true) {ops0 ops:List OpV} {lines0 lines:List (List UInt8)} {keys:List Nat} (h:Tells i ops0 lines0) (hl:lines0.length≤100) (t:Turned ops0 ops lines0 lines) (hk:KL i keys ops0) (k:Nat) (hk3:k < 3):outP ops keys lines k lines.length=onL k ops lines:=by
 obtain ⟨-,apo⟩:=t.ok1 hi h hl hk
 obtain ⟨f1,f2,f3⟩:=t.form hi h
 have key:∀ (j:Nat) (o:OpV),ops[j]?=some o→(keys[j]?=some k↔o.key=keyS k):=by
  intro j o hj
  cases hj0:ops0[j]? with
  | none=>rw [List.getElem?_eq_none (by rw [f2];exact List.getElem?_eq_none_iff.1 hj0)] at hj;cases hj
  | some o0=>
    obtain ⟨vk,vn,e,_⟩:=f3 j o0 hj0
    rw [hj] at e
    injection e with e
    obtain ⟨kk,h1,h2,_,h4⟩:=hk.2 j o0 hj0
    rw [if_pos hkd] at h4
    have h5:o.key=keyS kk:=by rw [e];exact h4
    rw [h1,h5]
    constructor
    · intro e';injection e' with e';rw [e']
    · intro e';rw [zpF h2 hk3 e']
 have cn:∀ p a,cnB ops keys k p a=true↔∃ o,ops[a]?=some o∧o.key=keyS k∧(o.call=(p:Int)+1∨o.ret=(p:Int)+1):=by
  intro p a
  unfold cnB
  cases ho:ops[a]? with
  | none=>simp
  | some o=>simp [key a o ho]
 have hin:∀ p,inP ops keys lines k p ops.length=if onB k ops p=true then [lines.getD p []] else []:=by
  intro p
  unfold inP
  rw [zMq]
  by_cases hb:onB k ops p=true
  · rw [if_pos hb]
    obtain ⟨o,ho,e⟩:=List.any_eq_true.1 hb
    simp only [Bool.and_eq_true,decide_eq_true_eq,Bool.or_eq_true] at e
    obtain ⟨a,ha⟩:=List.mem_iff_getElem?.1 ho
    have hal:=(List.getElem?_eq_some_iff.1 ha).1
    have hmem:a∈(List.range ops.length).filter (cnB ops keys k p):=List.mem_filter.2 ⟨List.mem_range.2 hal,(cn p a).2 ⟨o,ha,e⟩⟩
    obtain ⟨x,hx⟩:=zKx (l:=(List.range ops.length).filter (cnB ops keys k p)) (List.nodup_range.filter _) (by
     intro x hx y hy
     obtain ⟨ox,hox,_,ex⟩:=(cn p x).1 (List.mem_filter.1 hx).2
     obtain ⟨oy,hoy,_,ey⟩:=(cn p y).1 (List.mem_filter.1 hy).2
     have h1:=apo x y ox oy hox hoy
     have h2:=apo y x oy ox hoy hox
     rcases ex with ex | ex
     · rcases ey with ey | ey
       · exact h1.1 (by rw [ex,ey])
       · exact absurd (by rw [ex,ey]) (h2.2 (by omega)).1
     · rcases ey with ey | ey
       · exact absurd (by rw [ex,ey]) (h1.2 (by omega)).1
       · exact (h1.2 (by omega)).2 (by rw [ex,ey])) (List.ne_nil_of_mem hmem)
    rw [hx];rfl
  · rw [if_neg hb]
    have:(List.range ops.length).filter (cnB ops keys k p)=[]:=by
     rw [List.filter_eq_nil_iff]
     intro a _ hc
     obtain ⟨o,ho,h1,h2⟩:=(cn p a).1 hc
     apply hb
     unfold onB
     rw [List.any_eq_true]
     exact ⟨o,List.mem_of_getElem? ho,by simp [h1,h2]⟩
    rw [this];rfl
 unfold outP onL
 simp only [hin]
 exact zMq _ _ _
end Go.Proofs.YtlkidmafomjhgaaGreatDoor.keep
