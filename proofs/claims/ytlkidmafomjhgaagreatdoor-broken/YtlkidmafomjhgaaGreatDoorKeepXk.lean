/- One text. -/
import Derived.Test.YtlkidmafomjhgaaGreatDoorKeepXM
import Derived.Test.YtlkidmafomjhgaaGreatDoorKeepXg
set_option maxHeartbeats 8000000
set_option maxRecDepth 100000
namespace Go.Proofs.YtlkidmafomjhgaaGreatDoor.keep
open Go.RowKit
open srch (zkp Pow zWT zqC flt idsT qKey zOu)
theorem zEA {B:Nat} {a w:World} (h:Below B a w) (n:Nat):Below B a (w.drewN n):=⟨h.os,h.tape,h.output,h.size,h.block⟩
theorem zVT {ops:List OpV} {j:Nat} {p:OpV} {q:List UInt8} (h:ops[j]?=some p) (hk:p.key=q):flt q (ops.take (j+1))=flt q (ops.take j)++[p]:=by
 obtain ⟨hl,e⟩:=List.getElem?_eq_some_iff.1 h
 unfold flt
 rw [List.take_succ_eq_append_getElem hl,List.filter_append,e,List.filter_cons_of_pos (by simp [hk]),List.filter_nil]
theorem zVh {ops:List OpV} {j:Nat} {p:OpV} {q:List UInt8} (h:ops[j]?=some p) (hk:p.key≠q):flt q (ops.take (j+1))=flt q (ops.take j):=by
 obtain ⟨hl,e⟩:=List.getElem?_eq_some_iff.1 h
 unfold flt
 rw [List.take_succ_eq_append_getElem hl,List.filter_append,e,List.filter_cons_of_neg (by simpa using hk),List.filter_nil,List.append_nil]
theorem zGy (i:Nat) (hi:i < 5) (k:Nat) (hk:k < 3) (w:World):
 Calls Tryz.prog 18 #[.string ⟨(modS i).toArray⟩,.int .i64 (k:Int)] w fun e w'=>e=.returned (.string ⟨(if zSt i=true then qKey (keyS k) else [45]).toArray⟩)∧Below w.heap.size w w':=by
 by_cases h:zSt i=true
 · rw [if_pos h];exact zy5 i hi h k hk w
 · rw [if_neg h]
   have hky:=fun W=>zUa i hi W
   rw [show zSt i=false by simpa using h] at hky
   clear h
   go_enter Tryz.func18,Tryz.ntmps18
   go_wp2_with fail
   refine (hky _).mono ?_
   rintro e w1 ⟨rfl,rfl⟩
   go_wp2_with fail
   go_ret
   exact ⟨rfl,Below.refl _ _⟩
theorem zBq {i:Nat} {keys:List Nat} {ops:List OpV} (h:KL i keys ops) {j k kj kk:Nat} {p o:OpV} (hj:ops[j]?=some p) (hk:ops[k]?=some o) (hkj:keys[j]?=some kj) (hkk:keys[k]?=some kk):kj=kk↔p.key=o.key:=by
 obtain ⟨a,ha,ha3,haz,hak⟩:=h.2 j p hj
 obtain ⟨b,hb,hb3,hbz,hbk⟩:=h.2 k o hk
 obtain rfl:kj=a:=by rw [hkj] at ha;injection ha
 obtain rfl:kk=b:=by rw [hkk] at hb;injection hb
 rw [hak,hbk]
 by_cases hm:zSt i=true
 · rw [if_pos hm,if_pos hm]
   exact ⟨fun e=>by rw [e],fun e=>zpF ha3 hb3 e⟩
 · rw [if_neg hm,if_neg hm]
   have hm':zSt i=false:=by simpa using hm
   exact ⟨fun _=>rfl,fun _=>by rw [haz hm',hbz hm']⟩
theorem zmT (which:Int) (hw64:zRK which) (sv:Value) (code:List Int) (n:Int) (hn:zRK n) (W:World) (hg:Glob W) (hp:Pow W)
 (hrow:∃ oa cap,sv=.slice oa code.length cap∧(code≠[]→∃ g off,oa=some ⟨g,off,none⟩∧g < W.heap.size∧∀ j x,code[j]?=some x→W.cell? ⟨g,off+j,none⟩=some (.int .i64 x))) (hlen:code.length≤9223372036854775807) (hwf:∀ x∈code,zRK x):
 Calls Tryz.prog 6 #[.int .i64 which,sv,.int .i64 n] W fun e W'=>Below W.heap.size W W'∧e=.returned (.bool true):=by
 have hng:=hg.errs.lt
 have hi:pickP which 5 < 5:=zdA _ (by omega)
 go_enter Tryz.func6,Tryz.ntmps6
 go_wp2_with fail
 refine (zWy which W hw64).mono ?_
 rintro e w1 ⟨rfl,rfl⟩
 generalize pickP which 5=i at*
 have hMd:=z90 true i hi sv code 18 (by omega) w1 hrow hlen hwf
 go_wp2_with fail
 refine hMd.mono ?_
 rintro e w2 ⟨vo,vl,ops,lines,base,vk,keys,ls,dn,rfl,hT,hll,hO,hL,hbs,hb2,hKL,hK⟩
 clear hMd hrow
 obtain ⟨lo,lc,rfl⟩:=zIW hL
 obtain ⟨oo,oc,rfl⟩:=zIW hO
 obtain ⟨ko,kc,rfl⟩:=zIW hK
 obtain ⟨W3,hW3,hb3,hB3⟩:∃ W3,w2.alloc (.cells #[.string ⟨(modS i).toArray⟩,.slice oo ops.length oc,.slice lo lines.length lc,.slice ko keys.length kc] 26)=W3∧Below w2.heap.size w2 W3∧W3.heap[w2.heap.size]?=some (.cells #[.string ⟨(modS i).toArray⟩,.slice oo ops.length oc,.slice lo lines.length lc,.slice ko keys.length kc] 26 (0,0)):=⟨_,rfl,(Below.refl _ _).alloc (Nat.le_refl _) _,ziF _ _ _ rfl⟩
 have hL3:=zzF hL (Kept.of_below (S:=[]) hb3) (by simp)
 have hO3:=zzF hO (Kept.of_below (S:=[]) hb3) (by simp)
 have hK3:=zzF hK (Kept.of_below (S:=[]) hb3) (by simp)
 have hb13:Below w1.heap.size w1 W3:=hb2.trans (hb3.mono hb2.size)
 have hg2:=hT.tells.g (by omega)
 have hsh:=zkM i hg2
 have haw:=zqC W3 (hg.below (hb13.mono hng)) (hp.stays hb13)
 have HC:Hid _:=(⟨hT,hL3,hO3,hK3,hKL,hb13,hB3,hsh⟩:_∧_∧_∧_∧_∧_∧_∧_)
 clear hT hL3 hO3 hK3 hKL hb13 hB3 hsh hg2 hL hO hK hb3 hb2
 go_wp2_with fail
 refine haw.mono ?_
 rintro e w5 ⟨rfl,hb5⟩
 obtain ⟨hT,hL,hO,hK,hKL,hb1,hB,hsh⟩:=HC.out
 have hB5:=(hb5.block _ (zCqB hB)).trans hB
 have hL5:=zzF hL (Kept.of_below (S:=[]) hb5) (by simp)
 have hO5:=zzF hO (Kept.of_below (S:=[]) hb5) (by simp)
 have hK5:=zzF hK (Kept.of_below (S:=[]) hb5) (by simp)
 have hb15:Below w1.heap.size w1 w5:=hb1.trans (hb5.mono hb1.size)
 have c1:w5.cell? ⟨w2.heap.size,1,none⟩=some (.slice oo ops.length oc):=zBk hB5 1
 have HX:Hid _:=(⟨hT,hL5,hO5,hK5,hKL,hb15,hB5,hsh⟩:_∧_∧_∧_∧_∧_∧_∧_)
 clear hT hL hO hK hKL hb1 hB hsh hB5 hL5 hO5 hK5 hb15 haw hb5 HC
 by_cases h0:ops.length=0
 · have h0':((ops.length:Int) == 0)=true:=by simp [h0]
   have hR:=zWT [] (modS i) 1099511627776 w5 (hg.below (HX.out.2.2.2.2.2.1.mono hng)) (hp.stays HX.out.2.2.2.2.2.1) (by decide) (by decide)
   go_wp2_with fail
   refine hR.mono ?_
   rintro e w6 ⟨x,hx,rfl,hb6⟩
   have hxe:=zgo hi (b:=1099511627776) (by decide) hx
   have HB:Hid (Below w1.heap.size w1 w6):=HX.out.2.2.2.2.2.1.trans (hb6.mono HX.out.2.2.2.2.2.1.size)
   subst hxe
   clear hx hR hb6
   unfold sOrd
   go_wp2_with fail
   go_ret
   exact ⟨HB.out,rfl⟩
 · have h0':((ops.length:Int) == 0)=false:=beq_eq_false_iff_ne.2 (by omega)
   have hpos:0 < ops.length:=by omega
   have hpk:=z5u n ops.length w5 hn.1 hn.2 hpos
   have hkl:=zdA n hpos
   generalize pickP n ops.length=k at hpk hkl
   obtain ⟨o,hok⟩:∃ o,ops[k]?=some o:=⟨_,List.getElem?_eq_getElem hkl⟩
   have hoe:ops[k]=o:=by rw [List.getElem?_eq_getElem hkl] at hok;injection hok
   obtain ⟨g,hoo,hoc1,hgb,hgl⟩:∃ g,oo=some ⟨g,0,none⟩∧ops.length≤oc∧base≤g∧g < w5.heap.size:=by
    rcases zzD HX.out.2.2.1 with ⟨_,h0⟩ | ⟨g,cap,h1,h2,h3,h4⟩
    · omega
    · injection h1 with ha _ hc;exact ⟨g,ha,by omega,h3,h4⟩
   subst hoo
   have hcell:∀ c u,c < 10→(opvCells o)[c]?=some u→w5.cell? ⟨g,k*10+c,none⟩=some u:=fun c u hc hu=>zDA HX.out.2.2.1 _ _ ((zvc ops k hkl c hc).trans (by rw [hoe];exact hu))
   have q0:w5.cell? ⟨g,k*10,none⟩=some (.int .i64 o.id):=hcell 0 _ (by decide) rfl
   have q1:w5.cell? ⟨g,k*10+1,none⟩=some (.int .i64 o.cl):=hcell 1 _ (by decide) rfl
   have q2:w5.cell? ⟨g,k*10+2,none⟩=some (.string ⟨o.name.toArray⟩):=hcell 2 _ (by decide) rfl
   have q3:w5.cell? ⟨g,k*10+3,none⟩=some (.string ⟨o.key.toArray⟩):=hcell 3 _ (by decide) rfl
   have q4:w5.cell? ⟨g,k*10+4,none⟩=some (.int .i64 o.arg):=hcell 4 _ (by decide) rfl
   have q5:w5.cell? ⟨g,k*10+5,none⟩=some (.int .i64 o.exp):=hcell 5 _ (by decide) rfl
   have q6:w5.cell? ⟨g,k*10+6,none⟩=some (.int .i64 o.call):=hcell 6 _ (by decide) rfl
   have q7:w5.cell? ⟨g,k*10+7,none⟩=some (.int .i64 o.ret):=hcell 7 _ (by decide) rfl
   have q8:w5.cell? ⟨g,k*10+8,none⟩=some (.int .i64 o.vk):=hcell 8 _ (by decide) rfl
   have q9:w5.cell? ⟨g,k*10+9,none⟩=some (.int .i64 o.vn):=hcell 9 _ (by decide) rfl
   have hki:(k:Int) < (ops.length:Int):=by omega
   have HOK:Hid _:=(⟨hok,hkl⟩:_∧_)
   clear hcell hok hoe h0
   go_wp2_with fail
   refine hpk.mono ?_
   rintro e w6 ⟨rfl,rfl⟩
   obtain ⟨W1,hW1,hb1,hO1,hD1⟩:∃ W1,(w6.alloc (.cells #[.int .i64 o.id,.int .i64 o.cl,.string ⟨o.name.toArray⟩,.string ⟨o.key.toArray⟩,.int .i64 o.arg,.int .i64 o.exp,.int .i64 o.call,.int .i64 o.ret,.int .i64 o.vk,.int .i64 o.vn] 48)).alloc (.cells #[.slice none 0 0,.int .i64 0] 35)=W1∧Below w6.heap.size w6 W1∧
    W1.heap[w6.heap.size]?=some (.cells #[.int .i64 o.id,.int .i64 o.cl,.string ⟨o.name.toArray⟩,.string ⟨o.key.toArray⟩,.int .i64 o.arg,.int .i64 o.exp,.int .i64 o.call,.int .i64 o.ret,.int .i64 o.vk,.int .i64 o.vn] 48 (0,0))∧W1.heap[w6.heap.size+1]?=some (.cells #[.slice none 0 0,.int .i64 0] 35 (0,0)):=by
    refine ⟨_,rfl,((Below.refl _ _).alloc (Nat.le_refl _) _).alloc (by simp) _,?_,ziF _ _ _ (by simp)⟩
    rw [zD1 _ _ _ (by simp)];exact ziF _ _ _ rfl
   obtain ⟨hT,hL5,hO5,hK5,hKL,hb15,hB5,hsh⟩:=HX.out
   have hmem:=List.mem_of_getElem? HOK.out.1
   obtain ⟨⟨k',hk',hname⟩,_,_,hzero,hgive⟩:=hT.tells.gives hi o hmem
   have hval:zWP o.vk o.vn:=by
    by_cases hr:o.ret=0
    · exact Or.inl (hzero hr)
    · exact zy9 (hgive hr k' hk' hname)
   have hval2:o.ret≠0→zWP (z2F o.name o.vk o.vn).1 (z2F o.name o.vk o.vn).2:=fun hr=>by
    have:=z3e (zY5 hk' (hgive hr k' hk' hname))
    rw [←hname] at this
    exact this
   have hot:=fun W=>zvr o.id o.cl o.name o.key o.arg o.exp o.call o.ret o.vk o.vn W hval
   unfold opA at hot
   generalize hRR:z2F o.name o.vk o.vn=R at hot hval2
   have HRR:Hid _:=hRR
   have HV:Hid _:=(⟨hval,hval2⟩:_∧_)
   have HW1:Hid _:=(⟨hb1,hO1,hD1⟩:_∧_∧_)
   have hs1:W1.heap.size=w6.heap.size+2:=by rw [←hW1];simp
   have HS1:Hid _:=hs1
   have f0:W1.cell? ⟨w6.heap.size,0,none⟩=some (.int .i64 o.id):=zBk hO1 0
   have f1:W1.cell? ⟨w6.heap.size,1,none⟩=some (.int .i64 o.cl):=zBk hO1 1
   have f2:W1.cell? ⟨w6.heap.size,2,none⟩=some (.string ⟨o.name.toArray⟩):=zBk hO1 2
   have f3:W1.cell? ⟨w6.heap.size,3,none⟩=some (.string ⟨o.key.toArray⟩):=zBk hO1 3
   have f4:W1.cell? ⟨w6.heap.size,4,none⟩=some (.int .i64 o.arg):=zBk hO1 4
   have f5:W1.cell? ⟨w6.heap.size,5,none⟩=some (.int .i64 o.exp):=zBk hO1 5
   have f6:W1.cell? ⟨w6.heap.size,6,none⟩=some (.int .i64 o.call):=zBk hO1 6
   have f7:W1.cell? ⟨w6.heap.size,7,none⟩=some (.int .i64 o.ret):=zBk hO1 7
   have f8:W1.cell? ⟨w6.heap.size,8,none⟩=some (.int .i64 o.vk):=zBk hO1 8
   have f9:W1.cell? ⟨w6.heap.size,9,none⟩=some (.int .i64 o.vn):=zBk hO1 9
   clear hRR hgive hname hval hval2 hzero hT hL5 hO5 hK5 hKL hb15 hB5 hsh hb1 hO1 hD1 hs1
   go_wp2_with fail
   refine (hot _).mono ?_
   rintro e w7 ⟨rfl,hb7⟩
   obtain ⟨hb1,hO1,hD1⟩:=HW1.out
   have hO7:=(hb7.block _ (zCqB hO1)).trans hO1
   have hD7:=(hb7.block _ (zCqB hD1)).trans hD1
   have e7:w7.cell? ⟨w6.heap.size,7,none⟩=some (.int .i64 o.ret):=zBk hO7 7
   have e8:w7.cell? ⟨w6.heap.size,8,none⟩=some (.int .i64 o.vk):=zBk hO7 8
   have e9:w7.cell? ⟨w6.heap.size,9,none⟩=some (.int .i64 o.vn):=zBk hO7 9
   have hb67:Below w6.heap.size w6 w7:=hb1.trans (hb7.mono hb1.size)
   have H7:Hid _:=(⟨hO7,hD7,hb67⟩:_∧_∧_)
   clear f0 f1 f2 f3 f4 f5 f6 f7 f8 f9 hO7 hD7 hb67 hb1 hO1 hD1 hb7 hot q0 q1 q2 q3 q4 q5 q6 q7 q8 q9 c1 hpk
   obtain ⟨W8,hW8,hb8,hV8⟩:∃ W8,w7.alloc (.cells #[.int .i64 R.1,.int .i64 R.2] 46)=W8∧Below w7.heap.size w7 W8∧W8.heap[w7.heap.size]?=some (.cells #[.int .i64 R.1,.int .i64 R.2] 46 (0,0)):=⟨_,rfl,(Below.refl _ _).alloc (Nat.le_refl _) _,ziF _ _ _ rfl⟩
   have v0:W8.cell? ⟨w7.heap.size,0,none⟩=some (.int .i64 R.1):=zBk hV8 0
   have v1:W8.cell? ⟨w7.heap.size,1,none⟩=some (.int .i64 R.2):=zBk hV8 1
   have hO8:=(hb8.block _ (zCqB H7.out.1)).trans H7.out.1
   have g7:W8.cell? ⟨w6.heap.size,7,none⟩=some (.int .i64 o.ret):=zBk hO8 7
   have g8:W8.cell? ⟨w6.heap.size,8,none⟩=some (.int .i64 o.vk):=zBk hO8 8
   have g9:W8.cell? ⟨w6.heap.size,9,none⟩=some (.int .i64 o.vn):=zBk hO8 9
   have H8:Hid _:=(⟨hb8,hV8,hO8⟩:_∧_∧_)
   clear e7 e8 e9 hb8 hV8 hO8
   go_upto_region 13 with fail
   go_cut [58] (fun a wx=>a=.bool (o.ret == 0||(R.1 == o.vk&&R.2 == o.vn))∧wx=W8)
   case first=>
    by_cases hr:o.ret=0
    · have hr':(o.ret == 0)=true:=by simp [hr]
      go_wp2_with fail
      go_meet
      exact ⟨by rw [hr'];rfl,rfl⟩
    · have hr':(o.ret == 0)=false:=beq_eq_false_iff_ne.2 hr
      have HR':Hid _:=hr'
      go_wp2_with fail
      all_goals
       go_meet
       refine ⟨?_,rfl⟩
       rw [HR'.out]
       simp_all
   case rest=>
    obtain ⟨rfl,hwc⟩:=hcut
    have hwc':=hwc.symm
    subst hwc'
    clear hwc
    by_cases hcnd:(o.ret == 0||(R.1 == o.vk&&R.2 == o.vn))=true
    · rw [hcnd]
      obtain ⟨hT,hL5,hO5,hK5,hKL,hb15,hB5,hsh⟩:=HX.out
      have hb68:Below w6.heap.size w6 W8:=H7.out.2.2.trans (H8.out.1.mono H7.out.2.2.size)
      have hb18:Below w1.heap.size w1 W8:=hb15.trans (hb68.mono hb15.size)
      have hL8:=zzF hL5 (Kept.of_below (S:=[]) hb68) (by simp)
      have hB8:=(hb68.block _ (zCqB hB5)).trans hB5
      have c2:W8.cell? ⟨w2.heap.size,2,none⟩=some (.slice lo lines.length lc):=zBk hB8 2
      obtain ⟨tx,hx1⟩:∃ tx,tx=zhe lines:=⟨_,rfl⟩
      have hTx:Calls Tryz.prog 12 #[.slice lo lines.length lc] W8 fun e w'=>e=.returned (.string ⟨tx.toArray⟩)∧Below W8.heap.size W8 w':=by
       have h:=text_any lo lc lines W8 (fun hne=>zVUv hL8 hne) (by omega) (fun l hl=>by have:=hsh l hl;omega)
       rw [←hx1] at h;exact h
      have hlx:tx.length≤100000:=by
       rw [hx1]
       have h:=zvL lines hsh
       have h3:1001*lines.length≤1001*18:=Nat.mul_le_mul_left _ hll
       omega
      have HT:Hid _:=(⟨hT,hb18,hx1⟩:_∧_∧_)
      clear hT hL5 hO5 hK5 hKL hb15 hB5 hsh hb68 hb18 hL8 hB8 hx1 hcnd v0 v1 g7 g8 g9
      go_wp2_with fail
      refine hTx.mono ?_
      rintro e w9 ⟨rfl,hb9⟩
      have HB9:Hid (Below w1.heap.size w1 w9):=HT.out.2.1.trans (hb9.mono HT.out.2.1.size)
      have hR:=zWT tx (modS i) 1099511627776 w9 (hg.below (HB9.out.mono hng)) (hp.stays HB9.out) (by omega) (by decide)
      clear hTx hb9 c2
      go_wp2_with fail
      refine hR.mono ?_
      rintro e w10 ⟨x,hx,rfl,hb10⟩
      obtain ⟨r1,hr1⟩:=zcl hi HT.out.1 hll (b:=1099511627776) (by decide) (by rw [←HT.out.2.2];exact hx)
      have hbg:=zUk sOrd r1 x hr1
      unfold sOrd at hbg
      have HB10:Hid (Below w1.heap.size w1 w10):=HB9.out.trans (hb10.mono HB9.out.size)
      clear hR hx hr1 hb10
      go_wp2_with fail
      refine (hbg _).mono ?_
      rintro e w11 ⟨rfl,rfl⟩
      go_wp2_with fail
      go_ret
      exact ⟨HB10.out,rfl⟩
    · have hcf:(o.ret == 0||(R.1 == o.vk&&R.2 == o.vn))=false:=by simpa using hcnd
      have hr:o.ret≠0:=by intro e;rw [e] at hcf;simp at hcf
      have hne:R≠(o.vk,o.vn):=by intro e;rw [e] at hcf;simp at hcf
      rw [hcf]
      obtain ⟨hb8,hV8,hO8⟩:=H8.out
      obtain ⟨hO7,hD7,hb67⟩:=H7.out
      obtain ⟨hT,hL5,hO5,hK5,hKL,hb15,hB5,hsh⟩:=HX.out
      have hs7:=zCqB hD7
      have z8:=zBn hO8 8
      have z9:=zBn hO8 9
      obtain ⟨W9,hW9⟩:∃ W9,(W8.setCell ⟨w6.heap.size,8,none⟩ (.int .i64 R.1)).setCell ⟨w6.heap.size,9,none⟩ (.int .i64 R.2)=W9:=⟨_,rfl⟩
      have hk9:Kept [w6.heap.size] W8 W9:=by rw [←hW9];exact ((Kept.refl _ _).setCell (p:=⟨w6.heap.size,8,none⟩) (Or.inl (by simp)) _).setCell (p:=⟨w6.heap.size,9,none⟩) (Or.inl (by simp)) _
      have hO9:W9.heap[w6.heap.size]?=some (.cells #[.int .i64 o.id,.int .i64 o.cl,.string ⟨o.name.toArray⟩,.string ⟨o.key.toArray⟩,.int .i64 o.arg,.int .i64 o.exp,.int .i64 o.call,.int .i64 o.ret,.int .i64 R.1,.int .i64 R.2] 48 (0,0)):=by
       rw [←hW9,zFg (zFg hO8 8 _) 9 _];rfl
      have hb68:Below w6.heap.size w6 W8:=hb67.trans (hb8.mono hb67.size)
      have hb69:Below w6.heap.size w6 W9:=hb68.trans (hk9.below hb68.size (by simp))
      have hD8:=(hb8.block _ (zCqB hD7)).trans hD7
      have hD9:=(hk9.block _ (zCqB hD8) (by simp)).trans hD8
      have hB9:=(hb69.block _ (zCqB hB5)).trans hB5
      have hL9:=zzF hL5 (Kept.of_below (S:=[]) hb69) (by simp)
      have hop:=hT.tells.len
      obtain ⟨gl,rfl⟩:∃ g,lo=some ⟨g,0,none⟩:=by
       rcases zzD hL5 with ⟨_,e⟩ | ⟨g,cap,e,_,_,e2⟩
       · omega
       · injection e with e;exact ⟨g,e⟩
      obtain ⟨a4,c4,W4,hrun4,hown4,hb4⟩:=zCF W9 base gl lc lines hL9 (by omega)
      obtain ⟨g4,rfl,hg4⟩:∃ g4,a4=some ⟨g4,0,none⟩∧W9.heap.size≤g4:=by
       rcases zzD hown4 with ⟨_,e⟩ | ⟨g4,cp,e,_,e2,_⟩
       · omega
       · injection e with e;exact ⟨g4,e,e2⟩
      have t2:W9.cell? ⟨w2.heap.size,2,none⟩=some (.slice (some ⟨gl,0,none⟩) lines.length lc):=zBk hB9 2
      have hs9:=zCqB hD9
      have HH9:Hid _:=(⟨hO9,hD9,hB9,hb69,hown4,hb4⟩:_∧_∧_∧_∧_∧_)
      have HNE:Hid _:=(⟨hr,hne⟩:_∧_)
      clear hO9 hD9 hB9 hb69 hown4 hb4 hL9 hb68 hk9 hO8 hV8 hb8 hO7 hD7 hb67 hT hL5 hO5 hK5 hKL hb15 hB5 hsh hD8 hcnd hcf hne g7 hr
      go_wp2_with (at_builtin;refine zOu rfl _ _ 24 rfl _ _ _ _ rfl rfl hrun4 ?_)
      obtain ⟨hO9,hD9,hB9,hb69,hown4,hb4⟩:=HH9.out
      have hO4:=(hb4.block _ (zCqB hO9)).trans hO9
      have hD4:Dice W4 (w6.heap.size+1) (.slice none 0 0) [] []:=⟨⟨0,Nat.le_refl _,rfl,(hb4.block _ (zCqB hD9)).trans hD9⟩,⟨none,0,rfl,fun h=>absurd rfl h⟩,by decide,by simp⟩
      obtain ⟨x0,x1,x2,x3,x4,x5,x6,x7,x8,x9⟩:=ze6 hO4
      have hrin:=((HX.out.1.tells.lines_in) o hmem).2.2.1 HNE.out.1
      obtain ⟨rn,hrn⟩:∃ rn:Nat,o.ret=(rn:Int)+1:=⟨(o.ret - 1).toNat,by omega⟩
      have hrl:rn < lines.length:=by omega
      have hw1:IntKind.i64.wrap (o.ret - 1)=(rn:Int):=by rw [z6Xb (by omega) (by omega)];omega
      have hids:=(HX.out.1.tells.ids) k o HOK.out.1
      have hans:=fun W (hd:Dice W (w6.heap.size+1) (.slice none 0 0) [] [])=>zRZ (w6.heap.size+1) (.slice none 0 0) [] [] o.id o.cl o.name o.key o.arg o.exp o.call o.ret R.1 R.2 W hd (by omega) (by omega) (HV.out.2 HNE.out.1)
      unfold opA at hans
      generalize hAL:zZ7 o.id R.1 R.2 []=AL at hans
      have hl4:(strCells lines).length=lines.length:=zY1 lines
      obtain ⟨cur,hblk4,hcur⟩:∃ cur,W4.heap[g4]?=some (.cells cur 9 (0,0))∧cur[rn]?=some (.string ⟨lines[rn].toArray⟩):=by
       have hy:=hown4.cells (g:=g4) rfl rn (.string ⟨lines[rn].toArray⟩) (by unfold strCells;rw [List.getElem?_map,List.getElem?_eq_getElem hrl];rfl)
       rw [Addr.add_lit,Nat.zero_add] at hy
       rcases hown4.2 with ⟨h1,_⟩ | ⟨g',cap',cur,h1,_,hgb',_⟩
       · cases h1
       · injection h1 with h1;injection h1 with h1;injection h1 with h1;subst h1
         exact ⟨cur,hgb',(zBk hgb' rn).symm.trans hy⟩
      have hg4l:=zCqB hblk4
      have hne4:g4∉[w6.heap.size+1]:=by simp;omega
      have hlB:=zCqB hO4
      have hneB:w6.heap.size∉[w6.heap.size+1]:=by simp
      have hneG:w6.heap.size≠g4:=by omega
      have hD4d:=hD4.below ((Below.refl _ _).drew)
      have HX4:Hid _:=(⟨hown4,hAL⟩:_∧_)
      have HB4:Hid _:=(⟨hb4,hg4,hrn,hrl⟩:_∧_∧_∧_)
      clear hO9 hD9 hB9 hb69 hown4 hb4 hids hrin t2 v0 v1 g8 g9 z8 z9 hW9 hrun4 hAL hrn
      go_cut [78] (fun a wx=>wx.ownsRow W9.heap.size 9 1 (.slice (some ⟨g4,0,none⟩) lines.length c4) lines.length (strCells (lines.set rn AL.1))∧Kept [w6.heap.size+1,g4] W4 wx)
      case first=>
       go_region_held3 (fun w'=>w'.cell? ⟨w6.heap.size,0,none⟩=some (.int .i64 o.id)∧w'.cell? ⟨w6.heap.size,1,none⟩=some (.int .i64 o.cl)∧w'.cell? ⟨w6.heap.size,2,none⟩=some (.string ⟨o.name.toArray⟩)∧w'.cell? ⟨w6.heap.size,3,none⟩=some (.string ⟨o.key.toArray⟩)∧w'.cell? ⟨w6.heap.size,4,none⟩=some (.int .i64 o.arg)∧w'.cell? ⟨w6.heap.size,5,none⟩=some (.int .i64 o.exp)∧w'.cell? ⟨w6.heap.size,6,none⟩=some (.int .i64 o.call)∧w'.cell? ⟨w6.heap.size,7,none⟩=some (.int .i64 o.ret)∧w'.cell? ⟨w6.heap.size,8,none⟩=some (.int .i64 R.1)∧w'.cell? ⟨w6.heap.size,9,none⟩=some (.int .i64 R.2)) (first | (with_reducible exact hS5) | (with_reducible exact hS6 _) | go_keep) (first
        | (go_at_call 21;refine (hans _ hD4d).mono ?_;rintro e w5 ⟨rfl,hd5,hk5⟩;have vo:=(hk5.block w6.heap.size hlB hneB).trans hO4;have hS5:=ze6 vo;have hS6:=fun v=>ze6 ((Below.heap_setCell w5 ⟨g4,rn,none⟩ v w6.heap.size hneG).trans vo);have vb:=(hk5.block g4 hg4l hne4).trans hblk4;have v0:=(zBk vb rn).trans hcur;have v1:=zBn vb rn;have HVV:=srch.Hid.mk' hk5;clear hd5 hk5 vb vo))
       go_wp2
       go_meet
       have hk6:Kept [w6.heap.size+1] W4 w5:=((Kept.refl _ _).drew).trans HVV.out
       refine ⟨?_,(hk6.mono (by intro x _ h;simp at h ⊢;exact .inl h)).setCell (p:=⟨g4,rn,none⟩) (Or.inl (by simp)) _⟩
       have h6:=zUj (z1O HX4.out.1 hk6 (fun q hq=>by simp [Value.ownBlock] at hq;subst hq;exact hne4)) rn (.string ⟨AL.1.toArray⟩) (by omega)
       rw [show strCells (lines.set rn AL.1)=(strCells lines).set rn (.string ⟨AL.1.toArray⟩) by unfold strCells;rw [List.map_set]]
       exact h6
      case rest=>
       obtain ⟨hown5,hk5⟩:=hcut
       obtain ⟨hO9,hD9,hB9,hb69,_,hb4⟩:=HH9.out
       obtain ⟨hT,hL5,hO5,hK5,hKL,hb15,hB5,hsh⟩:=HX.out
       have hb94:Below w6.heap.size w6 W4:=hb69.trans (hb4.mono hb69.size)
       have hb6c:Below w6.heap.size w6 wc:=hb94.trans (hk5.below hb94.size (by have:=hb69.size;simp;omega))
       have hlT:=zCqB hB5
       obtain ⟨kk,hkk,hk3,hkz,hkey⟩:=hKL.2 k o HOK.out.1
       have hkll:=hKL.1
       obtain ⟨gk,rfl,hgk⟩:∃ g,ko=some ⟨g,0,none⟩∧g < w6.heap.size:=by
        rcases zzD hK5 with ⟨_,e⟩ | ⟨g,cap,e,_,_,e2⟩
        · omega
        · injection e with e;exact ⟨g,e,e2⟩
       have hkc:∀ (V:World),Below w6.heap.size w6 V→∀ (j kj:Nat),keys[j]?=some kj→V.cell? ⟨gk,j,none⟩=some (.int .i64 (kj:Int)):=fun V hV j kj hj=>by
        refine (hV.cell (p:=⟨gk,j,none⟩) hgk).trans ?_
        have:=hK5.cells (g:=gk) rfl j (.int .i64 (kj:Int)) (by unfold zXD;rw [List.getElem?_map,hj];rfl)
        rw [Addr.add_lit,Nat.zero_add] at this
        exact this
       have hoc:∀ (V:World),Below w6.heap.size w6 V→∀ (j:Nat) (p:OpV),ops[j]?=some p→V.cell? ⟨g,j*10,none⟩=some (.int .i64 p.id):=fun V hV j p hj=>by
        obtain ⟨hjl,hje⟩:=List.getElem?_eq_some_iff.1 hj
        exact (hV.cell (p:=⟨g,j*10,none⟩) hgl).trans (zDA hO5 _ _ ((zvc ops j hjl 0 (by decide)).trans (by rw [hje];rfl)))
       have hbc:∀ (V:World),Below w6.heap.size w6 V→V.cell? ⟨w2.heap.size,1,none⟩=some (.slice (some ⟨g,0,none⟩) ops.length oc)∧V.cell? ⟨w2.heap.size,3,none⟩=some (.slice (some ⟨gk,0,none⟩) keys.length kc):=fun V hV=>by
        have h:=(hV.block _ hlT).trans hB5
        exact ⟨zBk h 1,zBk h 3⟩
       have htu:Turned ops (twO ops k o) lines (twL lines o):=.inr ⟨k,o,HOK.out.1,HNE.out.1,rfl,rfl⟩
       have hgT:=htu.self hi hT.tells hll
       have hshT:=zkM i hgT
       have hfl:(twL lines o).length=lines.length:=by unfold twL;rw [List.length_set]
       have htw:lines.set rn AL.1=twL lines o:=by
        unfold twL
        rw [HRR.out,HX4.out.2,show (o.ret - 1).toNat=rn by have:=HB4.out.2.2.1;omega]
       rw [htw] at hown5
       have hidb:∀ (j:Nat) (p:OpV),ops[j]?=some p→ -1000000 < p.id∧p.id < 1000000:=fun j p hj=>by
        have:=hT.tells.ids j p hj
        have:=(List.getElem?_eq_some_iff.1 hj).1
        have:=hT.tells.len
        omega
       have HA:Hid _:=(⟨hT,hKL,hb15,hshT,hkk,hown5,hidb⟩:_∧_∧_∧_∧_∧_∧_)
       have HC:Hid _:=(⟨hkc,hoc,hbc⟩:_∧_∧_)
       have HB6:Hid _:=hb6c
       obtain ⟨wd,rfl⟩:∃ wd:World,wd=wc:=⟨_,rfl⟩
       clear hT hL5 hO5 hK5 hKL hb15 hB5 hsh hown5 hk5 hO9 hD9 hB9 hb69 hb4 hb94 hb6c hkc hoc hbc htu hgT hshT htw hidb hkey hkz x0 x1 x2 x3 x4 x5 x6 x7 x8 x9 hans hw1 hl4 hcur hblk4 hg4l hne4 hlB hneB hneG hD4d hD4 hO4 hkk
       have hkn:k < 19:=by have:=HA.out.1.tells.len;omega
       go_wp2_with fail
       go_loopw [17,18] (fun s17 s18 wr=>∃ (j:Nat) (wt:List UInt8),s17=.string ⟨wt.toArray⟩∧s18=.int .i64 (j:Int)∧j≤k∧wt.length≤8*j∧Hid (wt=idsT (flt o.key (ops.take j)))∧Hid (Below wd.heap.size wd wr)) (fun _ s18 _=>k - (intOf s18).toNat)
       case atStart=>exact ⟨0,[],rfl,rfl,by omega,by simp,(zWs _).2 (by simp [flt]) |>.symm,Below.refl _ _⟩
       case round=>
        obtain ⟨j,wt,rfl,rfl,hj,hwl,HW,HBr⟩:=hrel
        have HB6r:Hid (Below w6.heap.size w6 wr):=HB6.out.trans (HBr.out.mono HB6.out.size)
        have hkk:=HA.out.2.2.2.2.1
        obtain ⟨c1,c3⟩:=HC.out.2.2 wr HB6r.out
        have xk:=HC.out.1 wr HB6r.out k kk hkk
        have hkK:(k:Int) < (keys.length:Int):=by omega
        by_cases hin:j < k
        · have hin':(j:Int) < (k:Int):=by omega
          have hjo:(j:Int) < (ops.length:Int):=by omega
          have hjK:(j:Int) < (keys.length:Int):=by omega
          obtain ⟨p,hpj⟩:∃ p,ops[j]?=some p:=⟨_,List.getElem?_eq_getElem (by omega)⟩
          obtain ⟨kj,hkj⟩:∃ kj,keys[j]?=some kj:=⟨_,List.getElem?_eq_getElem (by omega)⟩
          have xj:=HC.out.1 wr HB6r.out j kj hkj
          have y0:=HC.out.2.1 wr HB6r.out j p hpj
          have hpb:=HA.out.2.2.2.2.2.2 j p hpj
          have HDr:Hid (∀ q,Below wr.heap.size wr (wr.drewN q)):=fun q=>zEA (Below.refl _ _) q
          have hsg:∀ V:World,Below wr.heap.size wr V→_:=fun V _=>zT1 p.id V hpb.1 hpb.2
          have hsl:=zkB p.id hpb.1 hpb.2
          have hks:=zBq HA.out.2.1 hpj HOK.out.1 hkj hkk
          have hwj:IntKind.i64.wrap ((j:Int)+1)=(j:Int)+1:=by go_arith
          by_cases hke:kj=kk
          · have HY:Hid _:=zKz (flt o.key (ops.take j)) p
            have HF:Hid _:=zVT hpj (hks.1 hke)
            have hke':((kj:Int) == (kk:Int))=true:=by simp [hke]
            generalize sgnP p.id=sg at hsg hsl HY
            clear hks hke hpb hkj hkk hpj
            by_cases hw0:wt=[]
            · have HW0:Hid _:=hw0
              subst hw0
              go_wp2_with fail
              go_quiet (fail)
              go_wp2_with fail
              refine (hsg _ (HDr.out _)).mono ?_
              rintro e w8 ⟨rfl,hb8⟩
              have HB8:Hid (Below wd.heap.size wd w8):=(zEA HBr.out _).trans (hb8.mono HBr.out.size)
              clear hsg hb8
              go_wp2_with fail
              go_roundw
              case rel=>exact ⟨j+1,sg,congrArg Value.string (zAs [] sg),by simp,by omega,by omega,by
               show sg=idsT (flt o.key (ops.take (j+1)))
               rw [HF.out,HY.out,if_pos ((zWs _).1 HW.out.symm)],HB8⟩
              case measure=>simp [intOf];omega
            · have hwn:wt.isEmpty=false:=by simpa using hw0
              go_wp2_with fail
              go_quiet (fail)
              go_wp2_with fail
              refine (hsg _ (HDr.out _)).mono ?_
              rintro e w8 ⟨rfl,hb8⟩
              have HB8:Hid (Below wd.heap.size wd w8):=(zEA HBr.out _).trans (hb8.mono HBr.out.size)
              clear hsg hb8
              go_wp2_with fail
              go_roundw
              case rel=>exact ⟨j+1,wt++[44]++sg,congrArg Value.string (srch.ba3 wt sg),by simp,by omega,by simp;omega,by
               show wt++[44]++sg=idsT (flt o.key (ops.take (j+1)))
               rw [HF.out,HY.out,if_neg (fun e=>hw0 (by rw [HW.out,e];exact (zWs _).2 rfl)),←HW.out],HB8⟩
              case measure=>simp [intOf];omega
          · have HF:Hid _:=zVh hpj (fun e=>hke (hks.2 e))
            have hke':((kj:Int) == (kk:Int))=false:=by rw [beq_eq_false_iff_ne];omega
            clear hks hke hpb hkj hkk hpj
            go_wp2_with fail
            go_quiet (fail)
            go_wp2_with fail
            go_roundw
            case rel=>exact ⟨j+1,wt,by simp,by simp,by omega,by omega,by
             show wt=idsT (flt o.key (ops.take (j+1)))
             rw [HF.out];exact HW.out,zEA HBr.out _⟩
            case measure=>simp [intOf];omega
        · obtain rfl:j=k:=by omega
          have hin':¬ (j:Int) < (j:Int):=by omega
          have hownr:=zzF HA.out.2.2.2.2.2.1 (Kept.of_below (S:=[]) HBr.out) (by simp)
          have hshT:=HA.out.2.2.2.1
          obtain ⟨tx,hx1⟩:∃ tx,tx=zhe (twL lines o):=⟨_,rfl⟩
          have hTx:Calls Tryz.prog 12 #[.slice (some ⟨g4,0,none⟩) lines.length c4] wr fun e w'=>e=.returned (.string ⟨tx.toArray⟩)∧Below wr.heap.size wr w':=by
           rw [←hfl] at hownr
           have h:=text_any (some ⟨g4,0,none⟩) c4 (twL lines o) wr (fun hne=>zVUv hownr hne) (by omega) (fun l hl=>by have:=hshT l hl;omega)
           rw [←hx1,hfl] at h;exact h
          have hlx:tx.length≤100000:=by
           rw [hx1]
           have h:=zvL (twL lines o) hshT
           rw [hfl] at h
           have h3:1001*lines.length≤1001*18:=Nat.mul_le_mul_left _ hll
           omega
          have H1r:Hid (Below w1.heap.size w1 wr):=HA.out.2.2.1.trans (HB6r.out.mono HA.out.2.2.1.size)
          have HXE:Hid _:=hx1
          have hql:(if zSt i=true then qKey (keyS kk) else [45]).length≤100:=by
           obtain rfl | rfl | rfl:kk=0∨kk=1∨kk=2:=by omega
           all_goals (split <;> decide)
          obtain ⟨qt,hqe⟩:∃ qt,qt=(if zSt i=true then qKey (keyS kk) else [45]):=⟨_,rfl⟩
          have hqt:=fun V=>zGy i hi kk hk3 V
          rw [←hqe] at hqt hql
          have HQE:Hid _:=hqe
          clear hownr hshT hx1 hqe hkk
          go_wp2_with fail
          refine hTx.mono ?_
          rintro e w9 ⟨rfl,hb9⟩
          have HB9:Hid (Below wr.heap.size wr w9):=hb9
          have H19:Hid (Below w1.heap.size w1 w9):=H1r.out.trans (hb9.mono H1r.out.size)
          have hR:=zWT tx (modS i) 1099511627776 w9 (hg.below (H19.out.mono hng)) (hp.stays H19.out) (by omega) (by decide)
          clear hTx hb9 c1 c3 xk
          go_wp2_with fail
          refine hR.mono ?_
          rintro e w10 ⟨x,hx,rfl,hb10⟩
          have HE:Hid (x=sIllP++qt++sLong++wt++[10]):=by
           show _=_
           rw [HQE.out,HW.out]
           exact zfE hi HA.out.1 hll j o HOK.out.1 HNE.out.1 (by rw [HRR.out];exact HNE.out.2) kk HA.out.2.2.2.2.1 (b:=1099511627776) (by decide) (by rw [←HXE.out];exact hx)
          have H110:Hid (Below w1.heap.size w1 w10):=H19.out.trans (hb10.mono H19.out.size)
          have HB10:Below w6.heap.size w6 w10:=HB6r.out.trans ((HB9.out.trans (hb10.mono HB9.out.size)).mono HB6r.out.size)
          obtain ⟨c1,c3⟩:=HC.out.2.2 w10 HB10
          have xk:=HC.out.1 w10 HB10 j kk HA.out.2.2.2.2.1
          clear hR hx hb10 HB10
          go_wp2_with fail
          refine (hqt _).mono ?_
          rintro e w11 ⟨rfl,hb11⟩
          have H111:Hid (Below w1.heap.size w1 w11):=H110.out.trans (hb11.mono H110.out.size)
          clear hqt hb11 c1 c3 xk
          go_wp2_with fail
          go_ret
          refine ⟨H111.out,?_⟩
          have hcat:(⟨#[73,76,76,69,71,65,76,32,112,97,114,116,61]⟩:ByteArray)++⟨qt.toArray⟩++⟨#[32,108,111,110,103,101,115,116,61]⟩++⟨wt.toArray⟩++⟨#[10]⟩=⟨x.toArray⟩:=by
           rw [HE.out]
           show ((⟨sIllP.toArray⟩:ByteArray)++⟨qt.toArray⟩++⟨sLong.toArray⟩++⟨wt.toArray⟩++⟨[10].toArray⟩)=_
           rw [zAs,zAs,zAs,zAs]
          simp only [hcat]
          simp
end Go.Proofs.YtlkidmafomjhgaaGreatDoor.keep
