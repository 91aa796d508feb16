/- One text. -/
import Derived.Test.YtbbkihekjdffpaaGreatDoorRefS
set_option maxHeartbeats 4000000
set_option maxRecDepth 100000
namespace Go.Proofs.YtbbkihekjdffpaaGreatDoor
open Go.RowKit

theorem zsL {w:World} {base:Nat} {v:Value} {ops:List OpV} (h:w.ownsRow base 74 10 v ops.length (opsRow ops)):
 ∃ oa capa,v=.slice oa ops.length capa∧ORow w oa ops:=by
 rcases zzD h with ⟨rfl,h0⟩ | ⟨g,cap,rfl,_,_,hg⟩
 · exact ⟨none,0,by rw [h0],fun hne=>absurd (List.length_eq_zero_iff.1 h0) hne⟩
 · exact ⟨_,_,rfl,fun _=>⟨g,rfl,hg,zDA h⟩⟩
theorem zIx (model:List UInt8) (ms:List RM) (ops:List OpV):((zjv model ms ops).1=0∧∃ o,(zjv model ms ops).2=some o∧o.name=(cR sOp ms).1.2.2.1)∨((zjv model ms ops).1≠0∧(zjv model ms ops).2=none):=by
 unfold zjv
 split
 · right;exact ⟨by decide,rfl⟩
 · split
   · right;exact ⟨by decide,rfl⟩
   · split
     · right;exact ⟨by decide,rfl⟩
     · split
       · right;exact ⟨by decide,rfl⟩
       · left;exact ⟨rfl,_,rfl,rfl⟩
theorem z2m (model:List UInt8) (ms:List RM) (ops:List OpV):((zty model ms ops).1=0∧∃ p,(zty model ms ops).2=some p∧p.1 < ops.length)∨((zty model ms ops).1≠0∧(zty model ms ops).2=none):=by
 unfold zty
 split
 · right;exact ⟨by decide,rfl⟩
 · split
   · right;exact ⟨by decide,rfl⟩
   · split
     · right;exact ⟨by decide,rfl⟩
     · rename_i h
       split
       · right;exact ⟨by decide,rfl⟩
       · left;exact ⟨rfl,_,rfl,(List.getElem?_eq_some_iff.1 h).1⟩

theorem zIJ (nm:List UInt8) (ms:List RM):cnt nm ms≤ms.length:=List.length_filter_le _ _
def zXm (model:List UInt8) (ops:List OpV) (s:ByteArray) (line:Int) (base:Nat) (w:World) (e:Ending) (w':World):Prop:=
 Below base w w'∧((∃ ops' v',z9q model ops s line=(0,some ops')∧ops'.length≤ops.length+1∧(∀ p∈ops',p.name.length≤8000000)∧w'.ownsRow base 74 10 v' ops'.length (opsRow ops')∧e=.returned (.tuple #[v',.int .i64 0]))∨
  (∃ r,z9q model ops s line=(r,none)∧(r != 0)=true∧e=.returned (.tuple #[.slice none 0 0,.int .i64 r])))

theorem z6x (model s:ByteArray) (line:Int) (hl:128 < line) (oa:Option Addr) (n cap:Nat) (w:World):
 Calls Tryz.prog 30 #[.string model,.string s,.int .i64 line,.slice oa n cap] w fun e w'=>w'=w∧e=.returned (.tuple #[.slice none 0 0,.int .i64 1]):=by
 go_enter Tryz.func30,Tryz.ntmps30
 go_wp2
 go_ret2
 exact ⟨rfl,rfl⟩

theorem opBlk.below {w w':World} {b:Nat} {o:OpV} (h:opBlk w b o) (k:Below w.heap.size w w'):opBlk w' b o:=(k.block b (zBq h)).trans h
theorem opBlk.call {w:World} {b:Nat} {o:OpV} (h:opBlk w b o) (line:Int):opBlk (w.setCell ⟨b,6,none⟩ (.int .i64 line)) b { o with call:=line }:=by
 unfold opBlk at*
 rw [zFg h]
 simp

theorem zJ7 (model s:ByteArray) (line:Int) (base:Nat) (v:Value) (ops:List OpV) (w:World) (hown:w.ownsRow base 74 10 v ops.length (opsRow ops)) (hbs:base≤w.heap.size) (hl:line≤128) (hol:ops.length≤900) (hs:s.size≤2000000) (hml:model.size≤2000000) (hon:∀ p∈ops,p.name.length≤8000000):
 Calls Tryz.prog 30 #[.string model,.string s,.int .i64 line,v] w fun e w'=>zXm model.data.toList ops s line base w e w':=by
 obtain ⟨oa,capa,rfl,ho⟩:=zsL hown
 go_enter Tryz.func30,Tryz.ntmps30
 go_wp2_with fail
 refine (zws s _ hs).mono ?_
 rintro e w1 ⟨hb1,⟨ms,o,cap,hp,hmsl,hmk,hr,rfl⟩ | ⟨hp,rfl⟩⟩
 · have hB:Hid (z9q model.data.toList ops s line=if repR ms ms=true∨(cR z3k ms).2+(cR sRet ms).2≠1 then (3,none)
    else if (cR z3k ms).2=1 then ((zjv model.data.toList ms ops).1,(zjv model.data.toList ms ops).2.map (fun o=>ops++[{ o with call:=line }]))
    else ((zty model.data.toList ms ops).1,(zty model.data.toList ms ops).2.map (zQy ops line))):=by
    unfold z9q;rw [hp];exact rfl
   clear hp
   go_wp2_with fail
   refine (z4Q o cap ms _ hr (by omega)).mono ?_
   rintro e w2 ⟨hb2,rfl⟩
   have hbl2:Below w.heap.size w w2:=hb1.trans (hb2.mono hb1.size)
   replace hr:=hr.below hb2
   clear hb1 hb2
   go_wp2_with fail
   refine (zAO o cap ms z3k _ hr (by omega)).mono ?_
   rintro e w3 ⟨hb3,rfl⟩
   rw [show memR z3k zB6 0 ms=cR z3k ms from rfl]
   obtain ⟨i1,i2,i3,i4,ic,Hi⟩:∃ a b c d n,Hid (cR z3k ms=((a,b,c,d),n)):=⟨_,_,_,_,_,rfl⟩
   rw [Hi.out]
   unfold zF5
   dsimp only
   have hz2:=hbl2.size
   obtain ⟨W3,hW3,hbl3,hr3⟩:∃ W,w3.alloc (.cells #[.string ⟨i1.toArray⟩,.int .u8 (i2:Int),.string ⟨i3.toArray⟩,.int .i64 i4] 123)=W∧Below w.heap.size w W∧RRow W o ms:=
    ⟨_,rfl,(hbl2.trans (hb3.mono hz2)).alloc (Nat.le_trans hz2 hb3.size) _,hr.below (hb3.alloc hb3.size _)⟩
   clear hbl2 hr hb3
   go_wp2_with fail
   refine (zAO o cap ms sRet W3 hr3 (by omega)).mono ?_
   rintro e w4 ⟨hb4,rfl⟩
   rw [show memR sRet zB6 0 ms=cR sRet ms from rfl]
   obtain ⟨x1,x2,x3,x4,xc,Hx⟩:∃ a b c d n,Hid (cR sRet ms=((a,b,c,d),n)):=⟨_,_,_,_,_,rfl⟩
   rw [Hx.out]
   unfold zF5
   dsimp only
   have hz3:=hbl3.size
   obtain ⟨W4,hW4,hbl4,hr4⟩:∃ W,w4.alloc (.cells #[.string ⟨x1.toArray⟩,.int .u8 (x2:Int),.string ⟨x3.toArray⟩,.int .i64 x4] 123)=W∧Below w.heap.size w W∧RRow W o ms:=
    ⟨_,rfl,(hbl3.trans (hb4.mono hz3)).alloc (Nat.le_trans hz3 hb4.size) _,hr3.below (hb4.alloc hb4.size _)⟩
   have hz4:=hbl4.size
   have hcl:Hid (ic=(cR z3k ms).2∧xc=(cR sRet ms).2):=⟨by rw [Hi.out],by rw [Hx.out]⟩
   have hmi:Hid (ic≤ms.length∧xc≤ms.length):=by
    have h1:=zra z3k ms
    have h2:=zra sRet ms
    rw [Hi.out] at h1;rw [Hx.out] at h2
    exact ⟨by rw [show ic=cnt z3k ms from h1];exact zIJ _ _,by rw [show xc=cnt sRet ms from h2];exact zIJ _ _⟩
   rw [←hcl.out.1,←hcl.out.2] at hB
   clear hbl3 hr3 hb4
   by_cases h3:repR ms ms=true∨ic+xc≠1
   · have hE:Hid (z9q model.data.toList ops s line=(3,none)):=by rw [hB.out,if_pos h3];exact rfl
     clear hB hcl
     cases hrp:repR ms ms with
     | true=>
       clear h3
       go_wp2
       go_ret2
       exact ⟨hbl4.mono hbs,Or.inr ⟨3,hE.out,rfl,rfl⟩⟩
     | false=>
       have hne:(((ic:Int)+(xc:Int)) != 1)=true:=by
        rw [hrp] at h3
        have:ic+xc≠1:=by rcases h3 with h | h;cases h;exact h
        simp;omega
       have hwr:IntKind.i64.wrap ((ic:Int)+(xc:Int))=(ic:Int)+(xc:Int):=by
        have:=hmi.out;exact z4A (by omega) (by omega)
       clear h3
       go_wp2
       go_ret2
       exact ⟨hbl4.mono hbs,Or.inr ⟨3,hE.out,rfl,rfl⟩⟩
   · have hrp:repR ms ms=false:=by cases h:repR ms ms with | true=>exact absurd (Or.inl h) h3 | false=>rfl
     have hsum:ic+xc=1:=Decidable.byContradiction fun h=>h3 (Or.inr h)
     have hne:(((ic:Int)+(xc:Int)) != 1)=false:=by simp;omega
     have hwr:IntKind.i64.wrap ((ic:Int)+(xc:Int))=(ic:Int)+(xc:Int):=z4A (by omega) (by omega)
     have hB2:Hid (z9q model.data.toList ops s line=if ic=1 then ((zjv model.data.toList ms ops).1,(zjv model.data.toList ms ops).2.map (fun o=>ops++[{ o with call:=line }]))
      else ((zty model.data.toList ms ops).1,(zty model.data.toList ms ops).2.map (zQy ops line))):=by
      rw [hB.out,if_neg h3];exact rfl
     have ho4:=ho.below hbl4
     have hown4:=zzF hown (Kept.of_below (S:=[]) hbl4) (by simp)
     clear hB hcl h3 hmi
     by_cases hic:ic=1
     · have hie:((ic:Int) == 1)=true:=by simp;omega
       have hB3:Hid (z9q model.data.toList ops s line=((zjv model.data.toList ms ops).1,(zjv model.data.toList ms ops).2.map (fun o=>ops++[{ o with call:=line }]))):=by rw [hB2.out,if_pos hic];exact rfl
       clear hB2 hic hsum
       go_wp2_with fail
       refine (zsE model o cap ms oa capa ops W4 hr4 ho4 (by omega) (by omega) hmk hml).mono ?_
       rintro e w5 ⟨hb5,rfl⟩
       have hbl5:Below w.heap.size w w5:=hbl4.trans (hb5.mono hz4)
       have hown5:=zzF hown4 (Kept.of_below (S:=[]) hb5) (by simp)
       have hz5:=hbl5.size
       rcases zIx model.data.toList ms ops with ⟨hc0,no,hcs,hcn⟩ | ⟨hc0,hcs⟩
       · rw [hc0,hcs]
         have hE:Hid (z9q model.data.toList ops s line=(0,some (ops++[{ no with call:=line }]))):=by rw [hB3.out,hc0,hcs];exact rfl
         have hnl:no.name.length≤8000000:=by rw [hcn];exact (zLS hmk sOp).2.2
         have hon':∀ p∈ops++[{ no with call:=line }],p.name.length≤8000000:=by
          intro p hp
          rcases List.mem_append.1 hp with hp | hp
          · exact hon p hp
          · simp at hp;subst hp;exact hnl
         clear hB3 hc0 hcs hcn hmk hr4 hown hown4 ho ho4 hb5
         obtain ⟨o1,o2,o3,o4,o5,o6,o7,o8,o9,o10⟩:=no
         unfold zWb
         simp only [Option.getD_some]
         obtain ⟨i0,hi,hz0,hz1,hzb⟩:=info_parts zSl
         have hrow:=zYv hown5
         go_wp2_with (at_builtin;refine wpList_append_own _ rfl _ _ 26 rfl base 74 i0 _ 10 96 Tryz.underlying26 hi hz0 hz1 hzb rfl (by decide) _ _ _ rfl ((hown5.alloc _).alloc _) ⟨w5.heap.size+1,0,none⟩ 1 1 (opvCells ⟨o1,o2,o3,o4,o5,o6,line,o8,o9,o10⟩) rfl rfl ?c1 ?c2 ?c3 ?c4 ?c5 ?_)
         case c1=>
          simp [opvCells]
         case c2=>intro u hu;simp [opvCells] at hu;rcases hu with rfl | rfl | rfl | rfl | rfl | rfl | rfl | rfl | rfl | rfl <;> rfl
         case c3=>unfold maxLen;omega
         case c4=>omega
         case c5=>omega
         intro v6 w6 own6 grow6 _
         have hb6:Below base w w6:=Below.grown (((hbl5.alloc hz5 _).alloc (by simp;omega) _).mono hbs) grow6 (by simp;omega) hrow
         rw [←z2L] at own6
         have own7:w6.ownsRow base 74 10 v6 (ops++[(⟨o1,o2,o3,o4,o5,o6,line,o8,o9,o10⟩:OpV)]).length (opsRow (ops++[(⟨o1,o2,o3,o4,o5,o6,line,o8,o9,o10⟩:OpV)])):=by simpa using own6
         clear own6 grow6 hrow hown5
         go_wp2
         go_ret2
         exact ⟨hb6,Or.inl ⟨_,v6,hE.out,by simp,hon',own7,rfl⟩⟩
       · rw [hcs]
         have hE:Hid (z9q model.data.toList ops s line=((zjv model.data.toList ms ops).1,none)):=by rw [hB3.out,hcs];exact rfl
         generalize (zjv model.data.toList ms ops).1=rr at*
         have hrr:(rr != 0)=true:=by simpa using hc0
         clear hB3 hcs hc0
         unfold zWb z1u
         simp only [Option.getD_none]
         go_wp2
         go_ret2
         exact ⟨(hbl5.alloc hz5 _).mono hbs,Or.inr ⟨rr,hE.out,hrr,rfl⟩⟩
     · have hie:((ic:Int) == 1)=false:=by simp;omega
       have hB3:Hid (z9q model.data.toList ops s line=((zty model.data.toList ms ops).1,(zty model.data.toList ms ops).2.map (zQy ops line))):=by rw [hB2.out,if_neg hic];exact rfl
       clear hB2 hic hsum
       go_wp2_with fail
       refine (zub model o cap ms oa capa ops W4 hr4 ho4 (by omega) (by omega) hmk hml hon).mono ?_
       rintro e w5 ⟨hb5,at_,vk,vn,hq,rfl⟩
       have hbl5:Below w.heap.size w w5:=hbl4.trans (hb5.mono hz4)
       have hown5:=zzF hown4 (Kept.of_below (S:=[]) hb5) (by simp)
       have hz5:=hbl5.size
       rcases z2m model.data.toList ms ops with ⟨hc0,⟨q,qk,qn⟩,hcs,hcn⟩ | ⟨hc0,hcs⟩
       · obtain ⟨rfl,rfl,rfl⟩:=hq _ hcs
         rw [hc0]
         have hcn':q < ops.length:=hcn
         have hE:Hid (z9q model.data.toList ops s line=(0,some (ops.set q (setRet ops[q] line vk vn)))):=by
          rw [hB3.out,hc0,hcs]
          show (0,some (zQy ops line (q,vk,vn)))=_
          unfold zQy
          rw [List.getElem?_eq_getElem hcn']
         have hon':∀ p∈ops.set q (setRet ops[q] line vk vn),p.name.length≤8000000:=by
          intro p hp
          rcases List.mem_or_eq_of_mem_set hp with h | h
          · exact hon p h
          · rw [h];exact hon ops[q] (List.getElem_mem hcn')
         obtain ⟨g,rfl,hcap,hgb,hgw⟩:∃ g,oa=some ⟨g,0,none⟩∧ops.length≤capa∧base≤g∧g < w5.heap.size:=by
          rcases zzD hown5 with ⟨_,h0⟩ | ⟨g,cap,h1,h2,h3,h4⟩
          · omega
          · injection h1 with ha _ hc;exact ⟨g,ha,by omega,h3,h4⟩
         obtain ⟨W6,hW6,hbl6,V6⟩:∃ W,w5.alloc (.cells #[.int .i64 vk,.int .i64 vn] 72)=W∧Below w5.heap.size w5 W∧vBlk W w5.heap.size vk vn:=⟨_,rfl,(Below.refl _ _).alloc (Nat.le_refl _) _,ziF _ _ _ rfl⟩
         have hown6:=zzF hown5 (Kept.of_below (S:=[]) hbl6) (by simp)
         have hz6:=hbl6.size
         have hbl60:Below w.heap.size w W6:=hbl5.trans (hbl6.mono hz5)
         have hcell:∀ c u,c < 10→(opvCells ops[q])[c]?=some u→W6.cell? ⟨g,q*10+c,none⟩=some u:=fun c u hcc hu=>zDA hown6 _ _ ((zvc ops q hcn' c hcc).trans hu)
         have q7:=hcell 7 _ (by omega) rfl
         have q8:=hcell 8 _ (by omega) rfl
         have q9:=hcell 9 _ (by omega) rfl
         obtain ⟨cur,hgb2⟩:∃ cur,W6.heap[g]?=some (.cells cur 74 (0,0)):=by
          rcases hown6.2 with ⟨h1,_⟩ | ⟨g',cap',cur,h1,_,hg,_⟩
          · cases h1
          · simp at h1;rw [h1.1];exact ⟨cur,hg⟩
         have f7:W6.frozen? ⟨g,q*10+7,none⟩=false:=zBn hgb2 _
         have f8:W6.frozen? ⟨g,q*10+8,none⟩=false:=zBn hgb2 _
         have f9:W6.frozen? ⟨g,q*10+9,none⟩=false:=zBn hgb2 _
         have v0:W6.cell? ⟨w5.heap.size,0,none⟩=some (.int .i64 vk):=by rw [zBk V6];rfl
         have v1:W6.cell? ⟨w5.heap.size,1,none⟩=some (.int .i64 vn):=by rw [zBk V6];rfl
         have n2:w5.heap.size≠g:=by omega
         have hii:(q:Int) < (ops.length:Int):=by omega
         have hlen:(opsRow ops).length=ops.length*10:=hown6.1
         have own7:(((W6.setCell ⟨g,q*10+7,none⟩ (.int .i64 line)).setCell ⟨g,q*10+8,none⟩ (.int .i64 vk)).setCell ⟨g,q*10+9,none⟩ (.int .i64 vn)).ownsRow base 74 10 (.slice (some ⟨g,0,none⟩) ops.length capa) ops.length (opsRow (ops.set q (setRet ops[q] line vk vn))):=by
          rw [zb0 ops q hcn']
          exact zUj (zUj (zUj hown6 (q*10+7) _ (by omega)) (q*10+8) _ (by simp;omega)) (q*10+9) _ (by simp;omega)
         have hbl7:Below base w (((W6.setCell ⟨g,q*10+7,none⟩ (.int .i64 line)).setCell ⟨g,q*10+8,none⟩ (.int .i64 vk)).setCell ⟨g,q*10+9,none⟩ (.int .i64 vn)):=(((hbl60.mono hbs).setCell (p:=⟨g,q*10+7,none⟩) hgb _).setCell (p:=⟨g,q*10+8,none⟩) hgb _).setCell (p:=⟨g,q*10+9,none⟩) hgb _
         clear hB3 hc0 hcs hcn hq hmk hr4 hown hown4 ho ho4 hb5 hcell hgb2 V6 hown6 hown5 hbl6 hbl60 hbl5
         dsimp only
         go_wp2
         go_ret2
         exact ⟨hbl7,Or.inl ⟨_,_,hE.out,by simp,hon',by rw [List.length_set];exact own7,rfl⟩⟩
       · have hE:Hid (z9q model.data.toList ops s line=((zty model.data.toList ms ops).1,none)):=by rw [hB3.out,hcs];exact rfl
         generalize (zty model.data.toList ms ops).1=rr at*
         have hrr:(rr != 0)=true:=by simpa using hc0
         clear hB3 hcs hc0 hq
         go_wp2
         go_ret2
         exact ⟨(hbl5.alloc hz5 _).mono hbs,Or.inr ⟨rr,hE.out,hrr,rfl⟩⟩
 · have hE:Hid (z9q model.data.toList ops s line=(2,none)):=by unfold z9q;rw [hp];exact rfl
   clear hp
   go_wp2
   go_ret2
   exact ⟨hb1.mono hbs,Or.inr ⟨2,hE.out,rfl,rfl⟩⟩
end Go.Proofs.YtbbkihekjdffpaaGreatDoor
