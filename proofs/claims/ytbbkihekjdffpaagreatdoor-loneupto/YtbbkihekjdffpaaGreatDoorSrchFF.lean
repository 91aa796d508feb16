/- Several texts in one. -/
import Derived.Test.YtbbkihekjdffpaaGreatDoorSrchDD
import Derived.Laws.MakeOwn
import Derived.OwnWalk
set_option maxHeartbeats 2000000
set_option maxRecDepth 100000
namespace Go.Proofs.YtbbkihekjdffpaaGreatDoor.srch
open Go.RowKit
theorem zzC (x:Int) (w:World):
 Calls Tryz.prog 128 #[.int .i64 x] w fun e w'=>e=.returned (.bool false)∧w'=w:=by
 go_enter Tryz.func128,Tryz.ntmps128
 go_wp2
 go_ret
 exact ⟨by simp,rfl⟩
def cmpI (x y:Int):Int:=if x < y then -1 else if y < x then 1 else 0
theorem zMb (x y:Int) (w:World):
 Calls Tryz.prog 90 #[.int .i64 x,.int .i64 y] w fun e w'=>e=.returned (.int .i64 (cmpI x y))∧w'=w:=by
 have hx:=fun W=>zzC x W
 have hy:=fun W=>zzC y W
 obtain ⟨R,hR⟩:∃ R,Hid (cmpI x y=R):=⟨_,rfl⟩
 rw [hR.out]
 unfold cmpI at hR
 go_enter Tryz.func90,Tryz.ntmps90
 go_wp2_with fail
 refine (hx _).mono ?_
 rintro e w2 ⟨rfl,rfl⟩
 go_wp2_with fail
 refine (hy _).mono ?_
 rintro e w3 ⟨rfl,rfl⟩
 clear hx hy
 by_cases h1:x < y
 · have hE:Hid (R= -1):=by rw [←hR.out,if_pos h1];exact rfl
   clear hR
   go_wp2
   go_ret
   exact ⟨by rw [hE.out];rfl,rfl⟩
 · by_cases h2:y < x
   · have hE:Hid (R=1):=by rw [←hR.out,if_neg h1,if_pos h2];exact rfl
     clear hR
     go_wp2
     go_ret
     exact ⟨by rw [hE.out];rfl,rfl⟩
   · have hE:Hid (R=0):=by rw [←hR.out,if_neg h1,if_neg h2];exact rfl
     clear hR
     go_wp2
     go_ret
     exact ⟨by rw [hE.out];rfl,rfl⟩
theorem zan:(Tryz.prog.info? 161).map (fun i=>(i.zero,i.size,i.bytes))=some (some (.agg #[.int .u64 0,.int .u64 0]),2,16):=by kernel_rfl
theorem zv7 (n:Nat) (hn:n≤128) (w:World):(Instr.makeSlice 158 (.int .i64 (n:Int)) (.int .i64 (n:Int))).run Tryz.prog w=.ok (.slice (some ⟨w.heap.size,0,none⟩) n n) (w.alloc (.cells (madeCells #[.int .u64 0,.int .u64 0] (n*2)) 161)):=by
 obtain ⟨i0,hi0',hz0,hz1,hz2⟩:=info_parts zan
 have h:=run_makeSlice (P:=Tryz.prog) w 158 161 i0 _ Tryz.underlying158 hi0' hz0 .i64 .i64 (n:Int) (n:Int) (by omega) (Int.le_refl _) (by rw [hz1];omega) (by rw [hz2];omega) (by omega)
 rw [hz1,show (n:Int).toNat=n by omega] at h
 exact h
structure GRow (c:Array Value) (f:Nat→Gr) (n:Nat):Prop where
 size:c.size=n*2
 at0:∀ j,j < n→c[j*2]?=some (.int .u64 (f j).1)
 at1:∀ j,j < n→c[j*2+1]?=some (.int .u64 (f j).2)
theorem GRow.init (n:Nat):GRow (madeCells #[.int .u64 0,.int .u64 0] (n*2)) (fun _=>(0,0)) n:=by
 refine ⟨by simp [madeCells],fun j hj=>?_,fun j hj=>?_⟩
 · have:j*2 < n*2:=by omega
   simp [madeCells,this]
 · have:j*2+1 < n*2:=by omega
   have e:(j*2+1) % 2=1:=by omega
   simp [madeCells,this,e]
theorem GRow.set {c:Array Value} {f:Nat→Gr} {n j:Nat} (h:GRow c f n) (hj:j < n) (g:Gr) (f':Nat→Gr) (h1:f' j=g) (h2:∀ k,k≠j→f' k=f k):
 GRow ((c.setIfInBounds (j*2) (.int .u64 g.1)).setIfInBounds (j*2+1) (.int .u64 g.2)) f' n:=by
 have hs:=h.size
 refine ⟨by simp [hs],fun k hk=>?_,fun k hk=>?_⟩
 · by_cases e:k=j
   · subst e
     rw [h1]
     have:k*2 < c.size:=by omega
     simp [this]
   · rw [h2 k e,←h.at0 k hk]
     rw [Array.getElem?_setIfInBounds_ne (by omega),Array.getElem?_setIfInBounds_ne (by omega)]
 · by_cases e:k=j
   · subst e
     rw [h1]
     have:k*2+1 < c.size:=by omega
     simp [this]
   · rw [h2 k e,←h.at1 k hk]
     rw [Array.getElem?_setIfInBounds_ne (by omega),Array.getElem?_setIfInBounds_ne (by omega)]
theorem GRow.congr {c:Array Value} {f f':Nat→Gr} {n:Nat} (h:GRow c f n) (e:∀ k,k < n→f' k=f k):GRow c f' n:=
 ⟨h.size,fun j hj=>by rw [e j hj];exact h.at0 j hj,fun j hj=>by rw [e j hj];exact h.at1 j hj⟩
def ahB (o:OpV) (call:Int):Bool:=!(o.ret == 0)&&decide (o.ret < call)
def ahG (call:Int):List OpV→Nat→Gr→Gr
 | [],_,g=>g
 | o::r,p,g=>ahG call r (p+1) (if ahB o call then zdS g p else g)
theorem zUN (call:Int) (ops:List OpV) (j:Nat) (h:j < ops.length):ahG call (ops.take (j+1)) 0 (0,0)=(if ahB ops[j] call then zdS (ahG call (ops.take j) 0 (0,0)) j else ahG call (ops.take j) 0 (0,0)):=by
 have key:∀ (l:List OpV) (p:Nat) (g:Gr) (o:OpV),ahG call (l++[o]) p g=(if ahB o call then zdS (ahG call l p g) (p+l.length) else ahG call l p g):=by
  intro l
  induction l with
  | nil=>intro p g o;simp [ahG]
  | cons x r ih=>intro p g o;show ahG call (r++[o]) (p+1) _=_;rw [ih];simp only [ahG,List.length_cons];rw [show p+1+r.length=p+(r.length+1) by omega]
 rw [List.take_succ_eq_append_getElem h,key,List.length_take,Nat.min_eq_left (by omega),Nat.zero_add]
def zre (ops:List OpV) (k:Nat):Int:=(ops[k]?.map (·.call)).getD 0
def ahF (ops:List OpV) (j m:Nat):Nat→Gr:=fun k=>if k < j then ahG (zre ops k) ops 0 (0,0) else if k=j then ahG (zre ops k) (ops.take m) 0 (0,0) else (0,0)
theorem z6t (ops:List OpV) (j:Nat):ahF ops j ops.length=ahF ops (j+1) 0:=by
 funext k
 unfold ahF
 by_cases h1:k < j
 · rw [if_pos h1,if_pos (by omega)]
 · rw [if_neg h1]
   by_cases h2:k=j
   · rw [if_pos h2,if_pos (by omega),List.take_length]
   · rw [if_neg h2,if_neg (by omega)]
     by_cases h3:k=j+1
     · rw [if_pos h3];rfl
     · rw [if_neg h3]
theorem z66 (ops:List OpV):ahF ops 0 0=fun _=>(0,0):=by
 funext k
 unfold ahF
 rw [if_neg (by omega)]
 by_cases h:k=0
 · rw [if_pos h];rfl
 · rw [if_neg h]
theorem zpi (ops:List OpV) (j m:Nat):ahF ops j m j=ahG (zre ops j) (ops.take m) 0 (0,0):=by unfold ahF;rw [if_neg (by omega),if_pos rfl]
theorem zPh (ops:List OpV) (j m m' k:Nat) (h:k≠j):ahF ops j m k=ahF ops j m' k:=by unfold ahF;rw [if_neg h,if_neg h]
theorem zYL (oa:Option Addr) (cap:Nat) (ops:List OpV) (w:World) (hr:OAt w oa ops) (hl:ops.length≤128):
 Calls Tryz.prog 78 #[.slice oa ops.length cap] w fun e w'=>e=.returned (.slice (some ⟨w.heap.size,0,none⟩) ops.length ops.length)∧(∃ c,w'.heap[w.heap.size]?=some (.cells c 161 (0,0))∧GRow c (fun k=>ahG (zre ops k) ops 0 (0,0)) ops.length)∧Below w.heap.size w w':=by
 have hP:=fun o W=>znl o W
 have hWi:=fun g p h W=>zxl g p h W
 unfold opAg at hP
 unfold grAg at*
 have hmk:=zv7 ops.length hl
 go_enter Tryz.func78,Tryz.ntmps78
 go_wp2_with fail
 go_loopw [13] (fun i wr=>∃ (j:Nat) (c:Array Value),i=.int .i64 (j:Int)∧j≤ops.length∧wr.heap[w.heap.size]?=some (.cells c 161 (0,0))∧GRow c (ahF ops j 0) ops.length∧Below w.heap.size w wr) (fun i _=>ops.length - (intOf i).toNat)
 case atStart=>exact ⟨0,_,rfl,by omega,ziF _ _ _ rfl,by rw [z66];exact GRow.init _,(Below.refl _ _).alloc (Nat.le_refl _) _⟩
 case round=>
  obtain ⟨j,c,rfl,hj,hB,hG,hbl⟩:=hrel
  clear hmk
  by_cases hin:j < ops.length
  · have hin':(j:Int) < (ops.length:Int):=by omega
    have hne:ops≠[]:=by intro h;rw [h] at hin;simp at hin
    obtain ⟨g,hoa,hg,hc⟩:=(hr.below hbl) hne
    have hcell:∀ c u,c < 10→(opvCells ops[j])[c]?=some u→wr.cell? ⟨g,j*10+c,none⟩=some u:=fun c u hcc hu=>hc _ _ ((zvc ops j hin c hcc).trans hu)
    subst hoa
    have hcall:zre ops j=ops[j].call:=by unfold zre;rw [List.getElem?_eq_getElem hin];rfl
    generalize ops[j]=o at*
    have q0:wr.cell? ⟨g,j*10,none⟩=some (.int .i64 o.id):=hcell 0 _ (by omega) rfl
    have q1:=hcell 1 _ (by omega) rfl
    have q2:=hcell 2 _ (by omega) rfl
    have q3:=hcell 3 _ (by omega) rfl
    have q4:=hcell 4 _ (by omega) rfl
    have q5:=hcell 5 _ (by omega) rfl
    have q6:=hcell 6 _ (by omega) rfl
    have q7:=hcell 7 _ (by omega) rfl
    have q8:=hcell 8 _ (by omega) rfl
    have q9:=hcell 9 _ (by omega) rfl
    clear hcell hc
    have hlt:=zBq hB
    obtain ⟨W0,hW0⟩:∃ W0,wr.alloc (.cells #[.int .i64 o.id,.int .i64 o.cl,.string ⟨o.name.toArray⟩,.string ⟨o.key.toArray⟩,.int .i64 o.arg,.int .i64 o.exp,.int .i64 o.call,.int .i64 o.ret,.int .i64 o.vk,.int .i64 o.vn] 74)=W0:=⟨_,rfl⟩
    have hbW:Below wr.heap.size wr W0:=by rw [←hW0];exact (Below.refl _ _).alloc (Nat.le_refl _) _
    have hBW:=(hbW.block _ hlt).trans hB
    have hOW:W0.heap[wr.heap.size]?=some (.cells #[.int .i64 o.id,.int .i64 o.cl,.string ⟨o.name.toArray⟩,.string ⟨o.key.toArray⟩,.int .i64 o.arg,.int .i64 o.exp,.int .i64 o.call,.int .i64 o.ret,.int .i64 o.vk,.int .i64 o.vn] 74 (0,0)):=by rw [←hW0];exact ziF _ _ _ rfl
    have hc6:W0.cell? ⟨wr.heap.size,6,none⟩=some (.int .i64 o.call):=zBk hOW 6
    have hblW:=hbl.trans (hbW.mono hbl.size)
    have hlO:=zBq hOW
    go_wp2_with fail
    clear hW0 hB hbW hOW q0 q1 q2 q3 q4 q5 q6 q7 q8 q9 hbl hg
    generalize wr.heap.size=ob at*
    clear wr
    go_loopw [20] (fun i wi=>∃ (m:Nat) (c:Array Value),i=.int .i64 (m:Int)∧m≤ops.length∧wi.heap[w.heap.size]?=some (.cells c 161 (0,0))∧GRow c (ahF ops j m) ops.length∧Below w.heap.size w wi∧wi.cell? ⟨ob,6,none⟩=some (.int .i64 o.call)∧ob < wi.heap.size) (fun i _=>ops.length - (intOf i).toNat)
    case atStart=>exact ⟨0,_,rfl,by omega,hBW,hG,hblW,hc6,hlO⟩
    case round=>
     clear hBW hG hblW hc6 hlO
     obtain ⟨m,c,rfl,hm,hB,hG,hbl,hc6,hlO⟩:=hrel
     by_cases hmn:m < ops.length
     · have hmn':(m:Int) < (ops.length:Int):=by omega
       obtain ⟨g',hg',hgl,hc⟩:=(hr.below hbl) hne
       have hcell:∀ c u,c < 10→(opvCells ops[m])[c]?=some u→wr.cell? ⟨g,m*10+c,none⟩=some u:=by
        intro c u hcc hu
        injection hg' with hg''
        injection hg'' with hg3
        rw [hg3]
        exact hc _ _ ((zvc ops m hmn c hcc).trans hu)
       have hT:=Hid.mk' (zUN o.call ops m hmn)
       generalize ops[m]=f at*
       have q0:wr.cell? ⟨g,m*10,none⟩=some (.int .i64 f.id):=hcell 0 _ (by omega) rfl
       have q1:=hcell 1 _ (by omega) rfl
       have q2:=hcell 2 _ (by omega) rfl
       have q3:=hcell 3 _ (by omega) rfl
       have q4:=hcell 4 _ (by omega) rfl
       have q5:=hcell 5 _ (by omega) rfl
       have q6:=hcell 6 _ (by omega) rfl
       have q7:=hcell 7 _ (by omega) rfl
       have q8:=hcell 8 _ (by omega) rfl
       have q9:=hcell 9 _ (by omega) rfl
       have hPf:=hP f
       have g0:wr.cell? ⟨w.heap.size,j*2,none⟩=some (.int .u64 (ahF ops j m j).1):=(zBk hB (j*2)).trans (hG.at0 j hin)
       have g1:wr.cell? ⟨w.heap.size,j*2+1,none⟩=some (.int .u64 (ahF ops j m j).2):=(zBk hB (j*2+1)).trans (hG.at1 j hin)
       have hSelf:=zpi ops j m
       rw [hcall] at hSelf
       have hSelf':=Hid.mk' hSelf
       have hset:Hid (∀ G',ahG o.call (ops.take (m+1)) 0 (0,0)=G'→GRow ((c.setIfInBounds (j*2) (.int .u64 G'.1)).setIfInBounds (j*2+1) (.int .u64 G'.2)) (ahF ops j (m+1)) ops.length):=fun G' h=>hG.set hin G' _ (by rw [zpi,hcall];exact h) (fun k hk=>zPh ops j (m+1) m k hk)
       have hsame:Hid (ahG o.call (ops.take (m+1)) 0 (0,0)=ahG o.call (ops.take m) 0 (0,0)→GRow c (ahF ops j (m+1)) ops.length):=fun h=>hG.congr (fun k hk=>by
        by_cases e:k=j
        · rw [e,zpi,zpi,hcall];exact h
        · exact zPh ops j (m+1) m k e)
       clear hcell hc hP hg' hgl hSelf hG
       generalize ahF ops j m j=G at*
       have hltA:=zBq hB
       go_wp2_with fail
       refine (hPf _).mono ?_
       rintro e w2 ⟨rfl,hb2⟩
       have hb02:Below wr.heap.size wr w2:=((Below.refl _ _).alloc (Nat.le_refl _) _).trans (hb2.mono (by simp))
       have hB2:=(hb02.block _ hltA).trans hB
       have hbl2:=hbl.trans (hb02.mono hbl.size)
       have hlO2:ob < w2.heap.size:=Nat.lt_of_lt_of_le hlO hb02.size
       have p6:=(hb02.cell (p:=⟨ob,6,none⟩) hlO).trans hc6
       have p7:w2.cell? ⟨wr.heap.size,7,none⟩=some (.int .i64 f.ret):=(hb2.cell (p:=⟨wr.heap.size,7,none⟩) (by simp)).trans (by simp)
       have r0:=(hb02.cell (p:=⟨w.heap.size,j*2,none⟩) hltA).trans g0
       have r1:=(hb02.cell (p:=⟨w.heap.size,j*2+1,none⟩) hltA).trans g1
       clear hPf hb2 hb02 q0 q1 q2 q3 q4 q5 q6 q7 q8 q9 hB hbl g0 g1 hc6 hlO
       cases hp:(f.ret == 0) with
       | true=>
         have hE:=Hid.mk' (hsame.out (by rw [hT.out];unfold ahB;rw [hp];exact if_neg (by simp)))
         clear hT hp hsame hset
         go_wp2_with fail
         go_roundw
         case rel=>exact ⟨m+1,_,by go_num,by omega,hB2,hE.out,hbl2,p6,hlO2⟩
         case measure=>simp [intOf];omega
       | false=>
         by_cases hq:f.ret < o.call
         · have hE:=Hid.mk' (hset.out (zdS G m) (by rw [hT.out,←hSelf'.out];unfold ahB;rw [hp];exact if_pos (by simp [hq])))
           have hW:=hWi G m (by omega)
           clear hT hp hsame hset hWi hSelf'
           go_wp2_with fail
           refine (hW _).mono ?_
           rintro e w3 ⟨rfl,hb3⟩
           have hB3:=(hb3.block _ (zBq hB2)).trans hB2
           have hbl3:=hbl2.trans (hb3.mono hbl2.size)
           have s0:=(hb3.cell (p:=⟨w.heap.size,j*2,none⟩) (zBq hB2)).trans r0
           have s1:=(hb3.cell (p:=⟨w.heap.size,j*2+1,none⟩) (zBq hB2)).trans r1
           have p63:=(hb3.cell (p:=⟨ob,6,none⟩) hlO2).trans p6
           have f0:=zBn hB3 (j*2)
           have f1:=zBn hB3 (j*2+1)
           generalize zdS G m=G' at*
           have hk:=Hid.mk' (show Kept [w.heap.size] w3 ((w3.setCell ⟨w.heap.size,j*2,none⟩ (.int .u64 G'.1)).setCell ⟨w.heap.size,j*2+1,none⟩ (.int .u64 G'.2)) from ((Kept.refl _ _).setCell (p:=⟨w.heap.size,j*2,none⟩) (Or.inl (by simp)) _).setCell (p:=⟨w.heap.size,j*2+1,none⟩) (Or.inl (by simp)) _)
           have hlO3:ob < w3.heap.size:=Nat.lt_of_lt_of_le hlO2 hb3.size
           clear hW hb3 hB2 hbl2 r0 r1 p6 p7 hlO2
           go_wp2_with fail
           go_roundw
           case rel=>
            exact ⟨m+1,_,by go_num,by omega,by rw [zFg (zFg hB3 (j*2) _) (j*2+1) _],hE.out,hbl3.trans (hk.out.below hbl3.size (by simp)),(hk.out.cell (p:=⟨ob,6,none⟩) hlO3 (by simp;omega)).trans p63,Nat.lt_of_lt_of_le hlO3 hk.out.size⟩
           case measure=>simp [intOf];omega
         · have hE:=Hid.mk' (hsame.out (by rw [hT.out];unfold ahB;rw [hp];exact if_neg (by simp;omega)))
           clear hT hp hsame hset
           go_wp2_with fail
           go_roundw
           case rel=>exact ⟨m+1,_,by go_num,by omega,hB2,hE.out,hbl2,p6,hlO2⟩
           case measure=>simp [intOf];omega
     · have hmn':¬ (m:Int) < (ops.length:Int):=by omega
       obtain rfl:m=ops.length:=by omega
       rw [z6t] at hG
       go_wp2_with fail
       go_roundw
       case rel=>exact ⟨j+1,_,by go_num,by omega,hB,hG,hbl⟩
       case measure=>simp [intOf];omega
  · have hin':¬ (j:Int) < (ops.length:Int):=by omega
    obtain rfl:j=ops.length:=by omega
    have hG':GRow c (fun k=>ahG (zre ops k) ops 0 (0,0)) ops.length:=hG.congr (fun k hk=>by unfold ahF;rw [if_pos hk])
    clear hG hP hWi
    go_wp2
    go_ret
    exact ⟨rfl,⟨_,hB,hG'⟩,hbl⟩
structure Stp (σ:Type) where
 g:Gr
 st:σ
 pl:Nat
def takenL {σ:Type} (ops:List OpV) (l:List (Stp σ)):List OpV:=l.filterMap (fun s=>ops[s.pl]?)
theorem zZf {σ:Type} (ops:List OpV) (l:List (Stp σ)) (j:Nat) (h:j < l.length) (hp:l[j].pl < ops.length):opsRow (takenL ops (l.take (j+1)))=opsRow (takenL ops (l.take j))++opvCells ops[l[j].pl]:=by
 have e:takenL ops (l.take (j+1))=takenL ops (l.take j)++[ops[l[j].pl]]:=by
  unfold takenL
  rw [List.take_succ_eq_append_getElem h,List.filterMap_append]
  congr 1
  rw [List.filterMap_cons,List.getElem?_eq_getElem hp]
  rfl
 rw [e]
 unfold opsRow
 rw [List.flatMap_append]
 simp
def WAt {σ:Type} (K:Nat) (sc:Stp σ→List Value) (w:World) (wa:Option Addr) (l:List (Stp σ)):Prop:=l≠[]→∃ g,wa=some ⟨g,0,none⟩∧g < w.heap.size∧∀ j (h:j < l.length) c u,c < K→(sc l[j])[c]?=some u→w.cell? ⟨g,j*K+c,none⟩=some u
theorem WAt.below {σ:Type} {K:Nat} {sc:Stp σ→List Value} {w w':World} {wa:Option Addr} {l:List (Stp σ)} (h:WAt K sc w wa l) (k:Below w.heap.size w w'):WAt K sc w' wa l:=by
 intro hne
 obtain ⟨g,h1,h2,h3⟩:=h hne
 exact ⟨g,h1,Nat.lt_of_lt_of_le h2 k.size,fun j hj c u hc hu=>(k.cell (p:=⟨g,j*K+c,none⟩) h2).trans (h3 j hj c u hc hu)⟩
theorem zOu {P:Program} {w:World} {ops:Array Oper} {rest:List Oper} {o:Oper} {a:Act} {Q:Exit→Act→World→Prop} (hgd:o.guard=none) (s x:Operand) (t:TypeId)
 (ho:o.op=.call { callee:=.builtin .append,args:=#[s,x],argTypes:=#[t,t] }) (v xv v':Value) (w':World) (hs:a.eval s=v) (hx:a.eval x=xv) (hrun:(Builtin.append_ #[t,t] o.type #[v,xv]).run P w=.ok v' w')
 (h:wpList P ops Q rest (a.put o.dst v') w'):wpList P ops Q (o::rest) a w:=by
 refine wpList_plain hgd fun K hK=>?_
 unfold Oper.wp execOp
 simp only [ho,resolve,invoke,builtin,Sem.run_bind,Sem.run_pure,Result.andThen_ok,List.map_toArray,List.map_cons,List.map_nil,hs,hx,hrun]
 exact hK _ _ h
theorem zpq (W:World) (base:Nat) (a:Option Addr) (n c:Nat) (xs:List Value) (s:OpV) (h:W.ownsRow base 74 10 (.slice a n c) n xs) (hn:n≤3000000) (hb:base≤W.heap.size):
 ∃ a' c' w',(Builtin.append_ #[26,26] 26 #[.slice a n c,.slice (some ⟨W.heap.size,0,none⟩) 1 1]).run Tryz.prog (W.alloc (.cells #[.int .i64 s.id,.int .i64 s.cl,.string ⟨s.name.toArray⟩,.string ⟨s.key.toArray⟩,.int .i64 s.arg,.int .i64 s.exp,.int .i64 s.call,.int .i64 s.ret,.int .i64 s.vk,.int .i64 s.vn] 74))=.ok (.slice a' (n+1) c') w'∧w'.ownsRow base 74 10 (.slice a' (n+1) c') (n+1) (xs++opvCells s)∧Below base W w':=by
 obtain ⟨i0,hi0',hz0,hz1,hz2⟩:=info_parts zSl
 obtain ⟨v7,w7,h1,h2,h3,_⟩:=run_append_own (P:=Tryz.prog) (W.alloc (.cells (opvCells s).toArray 74)) base 26 26 74 i0 _ 10 96 Tryz.underlying26 hi0' hz0 hz1 hz2 rfl (by decide) (.slice a n c) n xs (h.alloc _) ⟨W.heap.size,0,none⟩ 1 1 (opvCells s) rfl (z9R W _ _) (by intro u hu;simp [opvCells] at hu;rcases hu with rfl | rfl | rfl | rfl | rfl | rfl | rfl | rfl | rfl | rfl <;> rfl) (by unfold maxLen;omega) (by omega) (by simp;omega)
 obtain ⟨a',c',rfl⟩:=zIW h2
 have hrow:∀ g,(Value.slice a n c).ownBlock=some g→base≤g:=zYv h
 have hk:Kept (Value.slice a n c).ownBlock.toList W w7:=((Kept.refl _ W).alloc _).grownS h3 (fun g' hg'=>by rw [hg'];simp)
 exact ⟨a',c',w7,h1,h2,hk.below hb (fun g hg=>hrow g (by simpa using hg))⟩
def scI (s:Stp (Int)):List Value:=[.int .u64 s.g.1,.int .u64 s.g.2]++[.int .i64 s.st]++[.int .i64 (s.pl:Int)]
theorem zsi (oa wa:Option Addr) (cap wc:Nat) (ops:List OpV) (l:List (Stp (Int))) (w:World) (hr:OAt w oa ops) (hw:WAt 4 scI w wa l) (hl:l.length≤2000000) (hp:∀ s∈l,s.pl < ops.length):
 Calls Tryz.prog 81 #[.slice oa ops.length cap,.slice wa l.length wc] w fun e w'=>∃ a c,e=.returned (.slice a l.length c)∧w'.ownsRow w.heap.size 74 10 (.slice a l.length c) l.length (opsRow (takenL ops l))∧Below w.heap.size w w':=by
 obtain ⟨i0,hi0',hz0,hz1,hz2⟩:=info_parts zSl
 obtain ⟨wm,hmk,hom,hgm⟩:=run_make_own (P:=Tryz.prog) w w.heap.size 26 74 i0 _ 10 Tryz.underlying26 hi0' hz0 hz1 .i64 .i64 l.length (by rw [hz2];omega) (by unfold maxLen;omega) (Nat.le_refl _)
 have hkm:Below w.heap.size w wm:=(((Kept.refl [] w).grownS hgm (fun g' hg'=>by simp at hg')).below (Nat.le_refl _) (by simp))
 clear hi0' hz0 hz1 hz2 hgm
 go_enter Tryz.func81,Tryz.ntmps81
 go_wp2_with fail
 go_loopw [5,13] (fun s i wr=>∃ (j:Nat) (a:Option Addr) (c:Nat),s=.slice a j c∧i=.int .i64 (j:Int)∧j≤l.length∧wr.ownsRow w.heap.size 74 10 (.slice a j c) j (opsRow (takenL ops (l.take j)))∧Below w.heap.size w wr) (fun _ i _=>l.length - (intOf i).toNat)
 case atStart=>exact ⟨0,_,_,rfl,rfl,by omega,hom,hkm⟩
 case round=>
  clear hmk hom hkm
  obtain ⟨j,a,c,rfl,rfl,hj,hown,hbl⟩:=hrel
  by_cases hin:j < l.length
  · have hin':(j:Int) < (l.length:Int):=by omega
    have hne:l≠[]:=by intro h;rw [h] at hin;simp at hin
    obtain ⟨g,rfl,hg,hc⟩:=(hw.below hbl) hne
    have hcell:∀ c u,c < 4→(scI l[j])[c]?=some u→wr.cell? ⟨g,j*4+c,none⟩=some u:=fun c u hcc hu=>hc j hin c u hcc hu
    have hpl:=hp _ (List.getElem_mem hin)
    have hT:=Hid.mk' (zZf ops l j hin hpl)
    generalize l[j]=st at*
    have q0:wr.cell? ⟨g,j*4,none⟩=some (.int .u64 st.g.1):=hcell 0 _ (by omega) rfl
    have q1:=hcell 1 _ (by omega) rfl
    have q2:=hcell 2 _ (by omega) rfl
    have q3:=hcell 3 _ (by omega) rfl
    have hpl':(st.pl:Int) < (ops.length:Int):=by omega
    have hno:ops≠[]:=by intro h;rw [h] at hpl;simp at hpl
    obtain ⟨go,rfl,hgo,hco⟩:=(hr.below hbl) hno
    have hocell:∀ c u,c < 10→(opvCells ops[st.pl])[c]?=some u→wr.cell? ⟨go,st.pl*10+c,none⟩=some u:=fun c u hcc hu=>hco _ _ ((zvc ops st.pl hpl c hcc).trans hu)
    generalize ops[st.pl]=o at*
    have hW:∀ ob,Below wr.heap.size wr (wr.alloc ob):=fun ob=>(Below.refl _ _).alloc (Nat.le_refl _) _
    obtain ⟨W0,hW0⟩:∃ W0,wr.alloc (.cells #[.int .u64 st.g.1,.int .u64 st.g.2,.int .i64 st.st,.int .i64 (st.pl:Int)] 175)=W0:=⟨_,rfl⟩
    have hb0:Below wr.heap.size wr W0:=by rw [←hW0];exact hW _
    have hP0:W0.cell? ⟨wr.heap.size,3,none⟩=some (.int .i64 (st.pl:Int)):=by rw [←hW0];simp
    have hocell0:∀ c u,c < 10→(opvCells o)[c]?=some u→W0.cell? ⟨go,st.pl*10+c,none⟩=some u:=fun c u hcc hu=>(hb0.cell (p:=⟨go,st.pl*10+c,none⟩) hgo).trans (hocell c u hcc hu)
    have r0:W0.cell? ⟨go,st.pl*10,none⟩=some (.int .i64 o.id):=hocell0 0 _ (by omega) rfl
    have r1:=hocell0 1 _ (by omega) rfl
    have r2:=hocell0 2 _ (by omega) rfl
    have r3:=hocell0 3 _ (by omega) rfl
    have r4:=hocell0 4 _ (by omega) rfl
    have r5:=hocell0 5 _ (by omega) rfl
    have r6:=hocell0 6 _ (by omega) rfl
    have r7:=hocell0 7 _ (by omega) rfl
    have r8:=hocell0 8 _ (by omega) rfl
    have r9:=hocell0 9 _ (by omega) rfl
    have hown0:W0.ownsRow w.heap.size 74 10 (.slice a j c) j (opsRow (takenL ops (l.take j))):=by rw [←hW0];exact hown.alloc _
    have hbl0:=hbl.trans (hb0.mono hbl.size)
    obtain ⟨a',c',w7,hap,hown7,hb7⟩:=zpq W0 w.heap.size a j c _ o hown0 (by omega) hbl0.size
    have HX:=Hid.mk' (And.intro hown7 (hbl0.trans hb7))
    clear hcell hc hocell hocell0 hco hown hown0 hbl hbl0 hown7 hb7 hb0 hW
    go_wp2_with (at_builtin;refine zOu rfl _ _ 26 rfl _ _ _ _ rfl rfl hap ?_)
    go_roundw
    case rel=>exact ⟨j+1,a',c',rfl,by go_num,by omega,by rw [hT.out];exact HX.out.1,HX.out.2⟩
    case measure=>simp [intOf];omega
  · have hin':¬ (j:Int) < (l.length:Int):=by omega
    obtain rfl:j=l.length:=by omega
    rw [List.take_length] at hown
    go_wp2
    go_ret
    exact ⟨a,c,rfl,hown,hbl⟩
def scS (s:Stp (List UInt8)):List Value:=[.int .u64 s.g.1,.int .u64 s.g.2]++[.string ⟨s.st.toArray⟩]++[.int .i64 (s.pl:Int)]
theorem zfk (oa wa:Option Addr) (cap wc:Nat) (ops:List OpV) (l:List (Stp (List UInt8))) (w:World) (hr:OAt w oa ops) (hw:WAt 4 scS w wa l) (hl:l.length≤2000000) (hp:∀ s∈l,s.pl < ops.length):
 Calls Tryz.prog 98 #[.slice oa ops.length cap,.slice wa l.length wc] w fun e w'=>∃ a c,e=.returned (.slice a l.length c)∧w'.ownsRow w.heap.size 74 10 (.slice a l.length c) l.length (opsRow (takenL ops l))∧Below w.heap.size w w':=by
 obtain ⟨i0,hi0',hz0,hz1,hz2⟩:=info_parts zSl
 obtain ⟨wm,hmk,hom,hgm⟩:=run_make_own (P:=Tryz.prog) w w.heap.size 26 74 i0 _ 10 Tryz.underlying26 hi0' hz0 hz1 .i64 .i64 l.length (by rw [hz2];omega) (by unfold maxLen;omega) (Nat.le_refl _)
 have hkm:Below w.heap.size w wm:=(((Kept.refl [] w).grownS hgm (fun g' hg'=>by simp at hg')).below (Nat.le_refl _) (by simp))
 clear hi0' hz0 hz1 hz2 hgm
 go_enter Tryz.func98,Tryz.ntmps98
 go_wp2_with fail
 go_loopw [5,13] (fun s i wr=>∃ (j:Nat) (a:Option Addr) (c:Nat),s=.slice a j c∧i=.int .i64 (j:Int)∧j≤l.length∧wr.ownsRow w.heap.size 74 10 (.slice a j c) j (opsRow (takenL ops (l.take j)))∧Below w.heap.size w wr) (fun _ i _=>l.length - (intOf i).toNat)
 case atStart=>exact ⟨0,_,_,rfl,rfl,by omega,hom,hkm⟩
 case round=>
  clear hmk hom hkm
  obtain ⟨j,a,c,rfl,rfl,hj,hown,hbl⟩:=hrel
  by_cases hin:j < l.length
  · have hin':(j:Int) < (l.length:Int):=by omega
    have hne:l≠[]:=by intro h;rw [h] at hin;simp at hin
    obtain ⟨g,rfl,hg,hc⟩:=(hw.below hbl) hne
    have hcell:∀ c u,c < 4→(scS l[j])[c]?=some u→wr.cell? ⟨g,j*4+c,none⟩=some u:=fun c u hcc hu=>hc j hin c u hcc hu
    have hpl:=hp _ (List.getElem_mem hin)
    have hT:=Hid.mk' (zZf ops l j hin hpl)
    generalize l[j]=st at*
    have q0:wr.cell? ⟨g,j*4,none⟩=some (.int .u64 st.g.1):=hcell 0 _ (by omega) rfl
    have q1:=hcell 1 _ (by omega) rfl
    have q2:=hcell 2 _ (by omega) rfl
    have q3:=hcell 3 _ (by omega) rfl
    have hpl':(st.pl:Int) < (ops.length:Int):=by omega
    have hno:ops≠[]:=by intro h;rw [h] at hpl;simp at hpl
    obtain ⟨go,rfl,hgo,hco⟩:=(hr.below hbl) hno
    have hocell:∀ c u,c < 10→(opvCells ops[st.pl])[c]?=some u→wr.cell? ⟨go,st.pl*10+c,none⟩=some u:=fun c u hcc hu=>hco _ _ ((zvc ops st.pl hpl c hcc).trans hu)
    generalize ops[st.pl]=o at*
    have hW:∀ ob,Below wr.heap.size wr (wr.alloc ob):=fun ob=>(Below.refl _ _).alloc (Nat.le_refl _) _
    obtain ⟨W0,hW0⟩:∃ W0,wr.alloc (.cells #[.int .u64 st.g.1,.int .u64 st.g.2,.string ⟨st.st.toArray⟩,.int .i64 (st.pl:Int)] 212)=W0:=⟨_,rfl⟩
    have hb0:Below wr.heap.size wr W0:=by rw [←hW0];exact hW _
    have hP0:W0.cell? ⟨wr.heap.size,3,none⟩=some (.int .i64 (st.pl:Int)):=by rw [←hW0];simp
    have hocell0:∀ c u,c < 10→(opvCells o)[c]?=some u→W0.cell? ⟨go,st.pl*10+c,none⟩=some u:=fun c u hcc hu=>(hb0.cell (p:=⟨go,st.pl*10+c,none⟩) hgo).trans (hocell c u hcc hu)
    have r0:W0.cell? ⟨go,st.pl*10,none⟩=some (.int .i64 o.id):=hocell0 0 _ (by omega) rfl
    have r1:=hocell0 1 _ (by omega) rfl
    have r2:=hocell0 2 _ (by omega) rfl
    have r3:=hocell0 3 _ (by omega) rfl
    have r4:=hocell0 4 _ (by omega) rfl
    have r5:=hocell0 5 _ (by omega) rfl
    have r6:=hocell0 6 _ (by omega) rfl
    have r7:=hocell0 7 _ (by omega) rfl
    have r8:=hocell0 8 _ (by omega) rfl
    have r9:=hocell0 9 _ (by omega) rfl
    have hown0:W0.ownsRow w.heap.size 74 10 (.slice a j c) j (opsRow (takenL ops (l.take j))):=by rw [←hW0];exact hown.alloc _
    have hbl0:=hbl.trans (hb0.mono hbl.size)
    obtain ⟨a',c',w7,hap,hown7,hb7⟩:=zpq W0 w.heap.size a j c _ o hown0 (by omega) hbl0.size
    have HX:=Hid.mk' (And.intro hown7 (hbl0.trans hb7))
    clear hcell hc hocell hocell0 hco hown hown0 hbl hbl0 hown7 hb7 hb0 hW
    go_wp2_with (at_builtin;refine zOu rfl _ _ 26 rfl _ _ _ _ rfl rfl hap ?_)
    go_roundw
    case rel=>exact ⟨j+1,a',c',rfl,by go_num,by omega,by rw [hT.out];exact HX.out.1,HX.out.2⟩
    case measure=>simp [intOf];omega
  · have hin':¬ (j:Int) < (l.length:Int):=by omega
    obtain rfl:j=l.length:=by omega
    rw [List.take_length] at hown
    go_wp2
    go_ret
    exact ⟨a,c,rfl,hown,hbl⟩
def scP (s:Stp (Bool×Int)):List Value:=[.int .u64 s.g.1,.int .u64 s.g.2]++[.bool s.st.1,.int .i64 s.st.2]++[.int .i64 (s.pl:Int)]
theorem zT3 (oa wa:Option Addr) (cap wc:Nat) (ops:List OpV) (l:List (Stp (Bool×Int))) (w:World) (hr:OAt w oa ops) (hw:WAt 5 scP w wa l) (hl:l.length≤2000000) (hp:∀ s∈l,s.pl < ops.length):
 Calls Tryz.prog 91 #[.slice oa ops.length cap,.slice wa l.length wc] w fun e w'=>∃ a c,e=.returned (.slice a l.length c)∧w'.ownsRow w.heap.size 74 10 (.slice a l.length c) l.length (opsRow (takenL ops l))∧Below w.heap.size w w':=by
 obtain ⟨i0,hi0',hz0,hz1,hz2⟩:=info_parts zSl
 obtain ⟨wm,hmk,hom,hgm⟩:=run_make_own (P:=Tryz.prog) w w.heap.size 26 74 i0 _ 10 Tryz.underlying26 hi0' hz0 hz1 .i64 .i64 l.length (by rw [hz2];omega) (by unfold maxLen;omega) (Nat.le_refl _)
 have hkm:Below w.heap.size w wm:=(((Kept.refl [] w).grownS hgm (fun g' hg'=>by simp at hg')).below (Nat.le_refl _) (by simp))
 clear hi0' hz0 hz1 hz2 hgm
 go_enter Tryz.func91,Tryz.ntmps91
 go_wp2_with fail
 go_loopw [5,13] (fun s i wr=>∃ (j:Nat) (a:Option Addr) (c:Nat),s=.slice a j c∧i=.int .i64 (j:Int)∧j≤l.length∧wr.ownsRow w.heap.size 74 10 (.slice a j c) j (opsRow (takenL ops (l.take j)))∧Below w.heap.size w wr) (fun _ i _=>l.length - (intOf i).toNat)
 case atStart=>exact ⟨0,_,_,rfl,rfl,by omega,hom,hkm⟩
 case round=>
  clear hmk hom hkm
  obtain ⟨j,a,c,rfl,rfl,hj,hown,hbl⟩:=hrel
  by_cases hin:j < l.length
  · have hin':(j:Int) < (l.length:Int):=by omega
    have hne:l≠[]:=by intro h;rw [h] at hin;simp at hin
    obtain ⟨g,rfl,hg,hc⟩:=(hw.below hbl) hne
    have hcell:∀ c u,c < 5→(scP l[j])[c]?=some u→wr.cell? ⟨g,j*5+c,none⟩=some u:=fun c u hcc hu=>hc j hin c u hcc hu
    have hpl:=hp _ (List.getElem_mem hin)
    have hT:=Hid.mk' (zZf ops l j hin hpl)
    generalize l[j]=st at*
    have q0:wr.cell? ⟨g,j*5,none⟩=some (.int .u64 st.g.1):=hcell 0 _ (by omega) rfl
    have q1:=hcell 1 _ (by omega) rfl
    have q2:=hcell 2 _ (by omega) rfl
    have q3:=hcell 3 _ (by omega) rfl
    have q4:=hcell 4 _ (by omega) rfl
    have hpl':(st.pl:Int) < (ops.length:Int):=by omega
    have hno:ops≠[]:=by intro h;rw [h] at hpl;simp at hpl
    obtain ⟨go,rfl,hgo,hco⟩:=(hr.below hbl) hno
    have hocell:∀ c u,c < 10→(opvCells ops[st.pl])[c]?=some u→wr.cell? ⟨go,st.pl*10+c,none⟩=some u:=fun c u hcc hu=>hco _ _ ((zvc ops st.pl hpl c hcc).trans hu)
    generalize ops[st.pl]=o at*
    have hW:∀ ob,Below wr.heap.size wr (wr.alloc ob):=fun ob=>(Below.refl _ _).alloc (Nat.le_refl _) _
    obtain ⟨W0,hW0⟩:∃ W0,wr.alloc (.cells #[.int .u64 st.g.1,.int .u64 st.g.2,.bool st.st.1,.int .i64 st.st.2,.int .i64 (st.pl:Int)] 192)=W0:=⟨_,rfl⟩
    have hb0:Below wr.heap.size wr W0:=by rw [←hW0];exact hW _
    have hP0:W0.cell? ⟨wr.heap.size,4,none⟩=some (.int .i64 (st.pl:Int)):=by rw [←hW0];simp
    have hocell0:∀ c u,c < 10→(opvCells o)[c]?=some u→W0.cell? ⟨go,st.pl*10+c,none⟩=some u:=fun c u hcc hu=>(hb0.cell (p:=⟨go,st.pl*10+c,none⟩) hgo).trans (hocell c u hcc hu)
    have r0:W0.cell? ⟨go,st.pl*10,none⟩=some (.int .i64 o.id):=hocell0 0 _ (by omega) rfl
    have r1:=hocell0 1 _ (by omega) rfl
    have r2:=hocell0 2 _ (by omega) rfl
    have r3:=hocell0 3 _ (by omega) rfl
    have r4:=hocell0 4 _ (by omega) rfl
    have r5:=hocell0 5 _ (by omega) rfl
    have r6:=hocell0 6 _ (by omega) rfl
    have r7:=hocell0 7 _ (by omega) rfl
    have r8:=hocell0 8 _ (by omega) rfl
    have r9:=hocell0 9 _ (by omega) rfl
    have hown0:W0.ownsRow w.heap.size 74 10 (.slice a j c) j (opsRow (takenL ops (l.take j))):=by rw [←hW0];exact hown.alloc _
    have hbl0:=hbl.trans (hb0.mono hbl.size)
    obtain ⟨a',c',w7,hap,hown7,hb7⟩:=zpq W0 w.heap.size a j c _ o hown0 (by omega) hbl0.size
    have HX:=Hid.mk' (And.intro hown7 (hbl0.trans hb7))
    clear hcell hc hocell hocell0 hco hown hown0 hbl hbl0 hown7 hb7 hb0 hW
    go_wp2_with (at_builtin;refine zOu rfl _ _ 26 rfl _ _ _ _ rfl rfl hap ?_)
    go_roundw
    case rel=>exact ⟨j+1,a',c',rfl,by go_num,by omega,by rw [hT.out];exact HX.out.1,HX.out.2⟩
    case measure=>simp [intOf];omega
  · have hin':¬ (j:Int) < (l.length:Int):=by omega
    obtain rfl:j=l.length:=by omega
    rw [List.take_length] at hown
    go_wp2
    go_ret
    exact ⟨a,c,rfl,hown,hbl⟩
end Go.Proofs.YtbbkihekjdffpaaGreatDoor.srch
