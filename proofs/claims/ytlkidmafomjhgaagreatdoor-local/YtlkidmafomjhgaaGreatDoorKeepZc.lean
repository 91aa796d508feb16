/- One text. -/
import Derived.Test.YtlkidmafomjhgaaGreatDoorKeepS1
namespace Go.Proofs.YtlkidmafomjhgaaGreatDoor.keep
open Go.RowKit
open srch (zFI zlv zOu)
theorem zDC (W:World) (base g c:Nat) (ops:List OpV) (h:W.ownsRow base 48 10 (.slice (some ⟨g,0,none⟩) ops.length c) ops.length (opsRow ops)) (hl:ops.length≤1000):
 ∃ a' c' w',(Builtin.append_ #[23,23] 23 #[.slice none 0 0,.slice (some ⟨g,0,none⟩) ops.length c]).run Tryz.prog W=.ok (.slice a' ops.length c') w'∧w'.ownsRow W.heap.size 48 10 (.slice a' ops.length c') ops.length (opsRow ops)∧Below W.heap.size W w':=by
 obtain ⟨i0,hi0',hz0,hz1,hz2⟩:=info_parts zSl
 obtain ⟨v7,w7,h1,h2,h3,_⟩:=run_append_own (P:=Tryz.prog) W W.heap.size 23 23 48 i0 _ 10 96 Tryz.underlying23 hi0' hz0 hz1 hz2 rfl (by decide) (.slice none 0 0) 0 [] (World.ownsRow_nil _ _ _ _) ⟨g,0,none⟩ ops.length c (opsRow ops) (zFI ops) (fun j u hj=>by rw [Addr.add_lit,Nat.zero_add];exact zDA h j u hj) (zlv ops) (by unfold maxLen;omega) (by omega) (Nat.le_refl _)
 rw [Nat.zero_add,List.nil_append] at h2
 obtain ⟨a',c',rfl⟩:=zIW h2
 exact ⟨a',c',w7,h1,h2,(Below.refl _ W).grown h3 (Nat.le_refl _) (by intro k hk;simp [Value.ownBlock] at hk)⟩
theorem zY1 (l:List (List UInt8)):(strCells l).length=l.length:=by simp [strCells]
theorem zCF (W:World) (base g c:Nat) (ls:List (List UInt8)) (h:W.ownsRow base 9 1 (.slice (some ⟨g,0,none⟩) ls.length c) ls.length (strCells ls)) (hl:ls.length≤1000):
 ∃ a' c' w',(Builtin.append_ #[24,24] 24 #[.slice none 0 0,.slice (some ⟨g,0,none⟩) ls.length c]).run Tryz.prog W=.ok (.slice a' ls.length c') w'∧w'.ownsRow W.heap.size 9 1 (.slice a' ls.length c') ls.length (strCells ls)∧Below W.heap.size W w':=by
 obtain ⟨i0,hi0',hz0,hz1,hz2⟩:=info_parts strInfo
 obtain ⟨v7,w7,h1,h2,h3,_⟩:=run_append_own (P:=Tryz.prog) W W.heap.size 24 24 9 i0 _ 1 16 Tryz.underlying24 hi0' hz0 hz1 hz2 rfl (by decide) (.slice none 0 0) 0 [] (World.ownsRow_nil _ _ _ _) ⟨g,0,none⟩ ls.length c (strCells ls) (by rw [zY1];omega) (fun j u hj=>h.cells (g:=g) rfl j u hj) (by intro u hu;obtain ⟨x,_,rfl⟩:=List.mem_map.1 hu;rfl) (by unfold maxLen;omega) (by omega) (Nat.le_refl _)
 rw [Nat.zero_add,List.nil_append] at h2
 obtain ⟨a',c',rfl⟩:=zIW h2
 exact ⟨a',c',w7,h1,h2,(Below.refl _ W).grown h3 (Nat.le_refl _) (by intro k hk;simp [Value.ownBlock] at hk)⟩
theorem zRm (tm:Array Value) (W:World) (b:Nat) (v0 v1 v2 v3:Value) (h7:tm[4]?.getD undef=.pointer (some ⟨b,0,none⟩)) (hb:W.heap[b]?=some (.cells #[v0,v1,v2,v3] 26 (0,0))):
 (results Tryz.f9 tm).run Tryz.prog W=.ok (.agg #[v0,v1,v2,v3]) W:=by
 have c0:W.cell? ⟨b,0,none⟩=some v0:=by rw [zBk hb];rfl
 have c1:W.cell? ⟨b,1,none⟩=some v1:=by rw [zBk hb];rfl
 have c2:W.cell? ⟨b,2,none⟩=some v2:=by rw [zBk hb];rfl
 have c3:W.cell? ⟨b,3,none⟩=some v3:=by rw [zBk hb];rfl
 simp [results,Tryz.results9,go_sem,h7,c0,c1,c2,c3]
theorem zPn {W:World} {b:Nat} {x0 x1 x2 x3:Value} (h:W.heap[b]?=some (.cells #[x0,x1,x2,x3] 26 (0,0))) (v0 v1 v2 v3:Value):
 ((((W.setCell ⟨b,0,none⟩ v0).setCell ⟨b,1,none⟩ v1).setCell ⟨b,2,none⟩ v2).setCell ⟨b,3,none⟩ v3).heap[b]?=some (.cells #[v0,v1,v2,v3] 26 (0,0))∧Kept [b] W ((((W.setCell ⟨b,0,none⟩ v0).setCell ⟨b,1,none⟩ v1).setCell ⟨b,2,none⟩ v2).setCell ⟨b,3,none⟩ v3):=by
 refine ⟨by rw [zFg (zFg (zFg (zFg h 0 _) 1 _) 2 _) 3 _];rfl,?_⟩
 exact ((((Kept.refl _ _).setCell (p:=⟨b,0,none⟩) (Or.inl (by simp)) _).setCell (p:=⟨b,1,none⟩) (Or.inl (by simp)) _).setCell (p:=⟨b,2,none⟩) (Or.inl (by simp)) _).setCell (p:=⟨b,3,none⟩) (Or.inl (by simp)) _
theorem z5S {w:World} {base base':Nat} {e:TypeId} {size:Nat} {v:Value} {n:Nat} {xs:List Value} (h:w.ownsRow base e size v n xs) (hb:base'≤base):w.ownsRow base' e size v n xs:=by
 refine ⟨h.1,?_⟩
 rcases h.2 with hn | ⟨g,cap,cur,hv,hbg,rest⟩
 · exact .inl hn
 · exact .inr ⟨g,cap,cur,hv,Nat.le_trans hb hbg,rest⟩
theorem zgf (ops:List OpV) (k:Nat) (h:k < ops.length) (o:OpV):(((((((((((opsRow ops).set (k*10) (.int .i64 o.id)).set (k*10+1) (.int .i64 o.cl)).set (k*10+2) (.string ⟨o.name.toArray⟩)).set (k*10+3) (.string ⟨o.key.toArray⟩)).set (k*10+4) (.int .i64 o.arg)).set (k*10+5) (.int .i64 o.exp)).set (k*10+6) (.int .i64 o.call)).set (k*10+7) (.int .i64 o.ret)).set (k*10+8) (.int .i64 o.vk)).set (k*10+9) (.int .i64 o.vn))=opsRow (ops.set k o):=by
 induction ops generalizing k with
 | nil=>simp at h
 | cons p r ih=>
   have e:∀ (a:OpV) (l:List OpV),opsRow (a::l)=opvCells a++opsRow l:=fun a l=>by simp [opsRow]
   cases k with
   | zero=>
     simp only [List.set_cons_zero,e]
     rfl
   | succ k=>
     simp only [List.set_cons_succ,e]
     rw [←ih k (by simpa using h)]
     have hl:(opvCells p).length=10:=rfl
     rw [zEr (j:=k*10) (by rw [hl];omega),zEr (j:=k*10+1) (by rw [hl];omega),zEr (j:=k*10+2) (by rw [hl];omega),zEr (j:=k*10+3) (by rw [hl];omega),zEr (j:=k*10+4) (by rw [hl];omega),zEr (j:=k*10+5) (by rw [hl];omega),zEr (j:=k*10+6) (by rw [hl];omega),zEr (j:=k*10+7) (by rw [hl];omega),zEr (j:=k*10+8) (by rw [hl];omega),zEr (j:=k*10+9) (by rw [hl];omega)]
theorem zBU {W:World} {base g cap k:Nat} {ops:List OpV} (h:W.ownsRow base 48 10 (.slice (some ⟨g,0,none⟩) ops.length cap) ops.length (opsRow ops)) (hk:k < ops.length) (o:OpV):
 ((((((((((W.setCell ⟨g,k*10,none⟩ (.int .i64 o.id)).setCell ⟨g,k*10+1,none⟩ (.int .i64 o.cl)).setCell ⟨g,k*10+2,none⟩ (.string ⟨o.name.toArray⟩)).setCell ⟨g,k*10+3,none⟩ (.string ⟨o.key.toArray⟩)).setCell ⟨g,k*10+4,none⟩ (.int .i64 o.arg)).setCell ⟨g,k*10+5,none⟩ (.int .i64 o.exp)).setCell ⟨g,k*10+6,none⟩ (.int .i64 o.call)).setCell ⟨g,k*10+7,none⟩ (.int .i64 o.ret)).setCell ⟨g,k*10+8,none⟩ (.int .i64 o.vk)).setCell ⟨g,k*10+9,none⟩ (.int .i64 o.vn)).ownsRow base 48 10 (.slice (some ⟨g,0,none⟩) ops.length cap) ops.length (opsRow (ops.set k o))∧Kept [g] W ((((((((((W.setCell ⟨g,k*10,none⟩ (.int .i64 o.id)).setCell ⟨g,k*10+1,none⟩ (.int .i64 o.cl)).setCell ⟨g,k*10+2,none⟩ (.string ⟨o.name.toArray⟩)).setCell ⟨g,k*10+3,none⟩ (.string ⟨o.key.toArray⟩)).setCell ⟨g,k*10+4,none⟩ (.int .i64 o.arg)).setCell ⟨g,k*10+5,none⟩ (.int .i64 o.exp)).setCell ⟨g,k*10+6,none⟩ (.int .i64 o.call)).setCell ⟨g,k*10+7,none⟩ (.int .i64 o.ret)).setCell ⟨g,k*10+8,none⟩ (.int .i64 o.vk)).setCell ⟨g,k*10+9,none⟩ (.int .i64 o.vn)):=by
 have hl:=zFI ops
 constructor
 · rw [←zgf ops k hk o]
   exact zUj (zUj (zUj (zUj (zUj (zUj (zUj (zUj (zUj (zUj h (k*10) _ (by omega)) (k*10+1) _ (by simp;omega)) (k*10+2) _ (by simp;omega)) (k*10+3) _ (by simp;omega)) (k*10+4) _ (by simp;omega)) (k*10+5) _ (by simp;omega)) (k*10+6) _ (by simp;omega)) (k*10+7) _ (by simp;omega)) (k*10+8) _ (by simp;omega)) (k*10+9) _ (by simp;omega)
 · exact (((((((((((Kept.refl [g] W).setCell (p:=⟨g,k*10,none⟩) (Or.inl (by simp)) _).setCell (p:=⟨g,k*10+1,none⟩) (Or.inl (by simp)) _).setCell (p:=⟨g,k*10+2,none⟩) (Or.inl (by simp)) _).setCell (p:=⟨g,k*10+3,none⟩) (Or.inl (by simp)) _).setCell (p:=⟨g,k*10+4,none⟩) (Or.inl (by simp)) _).setCell (p:=⟨g,k*10+5,none⟩) (Or.inl (by simp)) _).setCell (p:=⟨g,k*10+6,none⟩) (Or.inl (by simp)) _).setCell (p:=⟨g,k*10+7,none⟩) (Or.inl (by simp)) _).setCell (p:=⟨g,k*10+8,none⟩) (Or.inl (by simp)) _).setCell (p:=⟨g,k*10+9,none⟩) (Or.inl (by simp)) _)
theorem ze6 {w':World} {b:Nat} {id cl:Int} {name key:List UInt8} {arg exp call ret x y:Int} (h:w'.heap[b]?=some (.cells #[.int .i64 id,.int .i64 cl,.string ⟨name.toArray⟩,.string ⟨key.toArray⟩,.int .i64 arg,.int .i64 exp,.int .i64 call,.int .i64 ret,.int .i64 x,.int .i64 y] 48 (0,0))):
 w'.cell? ⟨b,0,none⟩=some (.int .i64 id)∧w'.cell? ⟨b,1,none⟩=some (.int .i64 cl)∧w'.cell? ⟨b,2,none⟩=some (.string ⟨name.toArray⟩)∧w'.cell? ⟨b,3,none⟩=some (.string ⟨key.toArray⟩)∧w'.cell? ⟨b,4,none⟩=some (.int .i64 arg)∧w'.cell? ⟨b,5,none⟩=some (.int .i64 exp)∧w'.cell? ⟨b,6,none⟩=some (.int .i64 call)∧w'.cell? ⟨b,7,none⟩=some (.int .i64 ret)∧w'.cell? ⟨b,8,none⟩=some (.int .i64 x)∧w'.cell? ⟨b,9,none⟩=some (.int .i64 y):=
 ⟨zBk h 0,zBk h 1,zBk h 2,zBk h 3,zBk h 4,zBk h 5,zBk h 6,zBk h 7,zBk h 8,zBk h 9⟩
set_option maxHeartbeats 4000000 in
set_option maxRecDepth 100000 in
theorem zPuu (i:Nat) (hi:i < 5) (vo vl:Value) (ko:Option Addr) (kn kc:Nat) (ops:List OpV) (lines:List (List UInt8)) (n:Int) (hn:zRK n) (base:Nat) (w:World) (h:Tells i ops lines) (hl:lines.length≤100)
 (ho:w.ownsRow base 48 10 vo ops.length (opsRow ops)) (hln:w.ownsRow base 9 1 vl lines.length (strCells lines)):
 Calls Tryz.prog 9 #[.agg #[.string ⟨(modS i).toArray⟩,vo,vl,.slice ko kn kc],.int .i64 n] w fun e w'=>∃ vo' vl' ops' lines',e=.returned (.agg #[.string ⟨(modS i).toArray⟩,vo',vl',.slice ko kn kc])∧Turned ops ops' lines lines'∧
  w'.ownsRow base 48 10 vo' ops'.length (opsRow ops')∧w'.ownsRow base 9 1 vl' lines'.length (strCells lines')∧Below w.heap.size w w':=by
 have hop:=h.len
 by_cases h0:ops=[]
 · subst h0
   obtain ⟨lo,lc,rfl⟩:=zIW hln
   obtain ⟨oo,oc,rfl⟩:=zIW ho
   have hw1:Below w.heap.size w ((w.alloc (.cells #[.string ⟨(modS i).toArray⟩,.slice oo 0 oc,.slice lo lines.length lc,.slice ko kn kc] 26)).alloc (.cells #[.string ⟨(modS i).toArray⟩,.slice oo 0 oc,.slice lo lines.length lc,.slice ko kn kc] 26)):=((Below.refl _ _).alloc (Nat.le_refl _) _).alloc (by simp) _
   have HW:Hid _:=(⟨zzF ho (Kept.of_below hw1 (S:=[])) (by simp),zzF hln (Kept.of_below hw1 (S:=[])) (by simp),hw1⟩:_∧_∧_)
   rw [show ([]:List OpV).length=0 from rfl] at ho ⊢
   clear hw1 ho hln hop
   go_enter Tryz.func9,Tryz.ntmps9
   go_wp2_with fail
   refine bodyPost_ret (v:=.agg #[.string ⟨(modS i).toArray⟩,.slice oo 0 oc,.slice lo lines.length lc,.slice ko kn kc]) (by simp [results,Tryz.results9,go_sem]) rfl ?_
   exact ⟨_,_,[],lines,rfl,.inl ⟨rfl,rfl⟩,HW.out.1,HW.out.2.1,HW.out.2.2⟩
 · have hpos:0 < ops.length:=List.length_pos_iff.2 h0
   obtain ⟨g,oc,rfl,hoc1,hgb,hg⟩:∃ g cap,vo=.slice (some ⟨g,0,none⟩) ops.length cap∧ops.length≤cap∧base≤g∧g < w.heap.size:=(zzD ho).resolve_left (fun e=>by omega)
   obtain ⟨gl,lc,rfl,hlc1,hglb,hgl⟩:∃ g cap,vl=.slice (some ⟨g,0,none⟩) lines.length cap∧lines.length≤cap∧base≤g∧g < w.heap.size:=(zzD hln).resolve_left (fun e=>by omega)
   have hpk:=fun W=>z5u n ops.length W hn.1 hn.2 hpos
   have hkl:=zdA n hpos
   generalize pickP n ops.length=k at hpk hkl
   obtain ⟨o,hok⟩:∃ o,ops[k]?=some o:=⟨_,List.getElem?_eq_getElem hkl⟩
   have hoe:ops[k]=o:=by rw [List.getElem?_eq_getElem hkl] at hok;injection hok
   have hcell:∀ c u,c < 10→(opvCells o)[c]?=some u→w.cell? ⟨g,k*10+c,none⟩=some u:=fun c u hc hu=>zDA ho _ _ ((zvc ops k hkl c hc).trans (by rw [hoe];exact hu))
   obtain ⟨W0,hW0,hb0,hTB,hRB⟩:∃ W0,(w.alloc (.cells #[.string ⟨(modS i).toArray⟩,.slice (some ⟨g,0,none⟩) ops.length oc,.slice (some ⟨gl,0,none⟩) lines.length lc,.slice ko kn kc] 26)).alloc (.cells #[.string ⟨#[]⟩,.slice none 0 0,.slice none 0 0,.slice none 0 0] 26)=W0∧Below w.heap.size w W0∧
    W0.heap[w.heap.size]?=some (.cells #[.string ⟨(modS i).toArray⟩,.slice (some ⟨g,0,none⟩) ops.length oc,.slice (some ⟨gl,0,none⟩) lines.length lc,.slice ko kn kc] 26 (0,0))∧W0.heap[w.heap.size+1]?=some (.cells #[.string ⟨#[]⟩,.slice none 0 0,.slice none 0 0,.slice none 0 0] 26 (0,0)):=by
    refine ⟨_,rfl,((Below.refl _ _).alloc (Nat.le_refl _) _).alloc (by simp) _,?_,ziF _ _ _ (by simp)⟩
    rw [zD1 _ _ _ (by simp)];exact ziF _ _ _ rfl
   have hs0:W0.heap.size=w.heap.size+2:=by rw [←hW0];simp
   have hne:((ops.length:Int) == 0)=false:=by simp;omega
   have hT1:W0.cell? ⟨w.heap.size,1,none⟩=some (.slice (some ⟨g,0,none⟩) ops.length oc):=zBk hTB 1
   go_enter Tryz.func9,Tryz.ntmps9
   go_wp2_with fail
   refine (hpk _).mono ?_
   rintro e W0 ⟨rfl,rfl⟩
   have q:∀ c u,c < 10→(opvCells o)[c]?=some u→W0.cell? ⟨g,k*10+c,none⟩=some u:=fun c u hc hu=>(hb0.cell (p:=⟨g,k*10+c,none⟩) hg).trans (hcell c u hc hu)
   have q0:W0.cell? ⟨g,k*10,none⟩=some (.int .i64 o.id):=q 0 _ (by decide) rfl
   have q1:W0.cell? ⟨g,k*10+1,none⟩=some (.int .i64 o.cl):=q 1 _ (by decide) rfl
   have q2:W0.cell? ⟨g,k*10+2,none⟩=some (.string ⟨o.name.toArray⟩):=q 2 _ (by decide) rfl
   have q3:W0.cell? ⟨g,k*10+3,none⟩=some (.string ⟨o.key.toArray⟩):=q 3 _ (by decide) rfl
   have q4:W0.cell? ⟨g,k*10+4,none⟩=some (.int .i64 o.arg):=q 4 _ (by decide) rfl
   have q5:W0.cell? ⟨g,k*10+5,none⟩=some (.int .i64 o.exp):=q 5 _ (by decide) rfl
   have q6:W0.cell? ⟨g,k*10+6,none⟩=some (.int .i64 o.call):=q 6 _ (by decide) rfl
   have q7:W0.cell? ⟨g,k*10+7,none⟩=some (.int .i64 o.ret):=q 7 _ (by decide) rfl
   have q8:W0.cell? ⟨g,k*10+8,none⟩=some (.int .i64 o.vk):=q 8 _ (by decide) rfl
   have q9:W0.cell? ⟨g,k*10+9,none⟩=some (.int .i64 o.vn):=q 9 _ (by decide) rfl
   have hHo:Hid _:=(⟨ho,hln,hok,h⟩:_∧_∧_∧_)
   obtain ⟨W1,hW1,hb1,hO1⟩:∃ W1,W0.alloc (.cells #[.int .i64 o.id,.int .i64 o.cl,.string ⟨o.name.toArray⟩,.string ⟨o.key.toArray⟩,.int .i64 o.arg,.int .i64 o.exp,.int .i64 o.call,.int .i64 o.ret,.int .i64 o.vk,.int .i64 o.vn] 48)=W1∧Below W0.heap.size W0 W1∧W1.heap[W0.heap.size]?=some (.cells #[.int .i64 o.id,.int .i64 o.cl,.string ⟨o.name.toArray⟩,.string ⟨o.key.toArray⟩,.int .i64 o.arg,.int .i64 o.exp,.int .i64 o.call,.int .i64 o.ret,.int .i64 o.vk,.int .i64 o.vn] 48 (0,0)):=
    ⟨_,rfl,(Below.refl _ _).alloc (Nat.le_refl _) _,ziF _ _ _ rfl⟩
   rw [hs0] at hO1
   have hT1b:=(hb1.block _ (zBq hTB)).trans hTB
   have hR1b:=(hb1.block _ (zBq hRB)).trans hRB
   have e7:W1.cell? ⟨w.heap.size+2,7,none⟩=some (.int .i64 o.ret):=zBk hO1 7
   clear q hcell hpk hW0 ho hln hok hoe h0
   by_cases hr:o.ret=0
   · rw [hr] at hW1 hO1 q7 e7
     clear hr
     have t0:W1.cell? ⟨w.heap.size,0,none⟩=some (.string ⟨(modS i).toArray⟩):=zBk hT1b 0
     have t1:W1.cell? ⟨w.heap.size,1,none⟩=some (.slice (some ⟨g,0,none⟩) ops.length oc):=zBk hT1b 1
     have t2:W1.cell? ⟨w.heap.size,2,none⟩=some (.slice (some ⟨gl,0,none⟩) lines.length lc):=zBk hT1b 2
     have t3:W1.cell? ⟨w.heap.size,3,none⟩=some (.slice ko kn kc):=zBk hT1b 3
     have r0:=zBk hR1b 0
     have r1:=zBk hR1b 1
     have r2:=zBk hR1b 2
     have r3:=zBk hR1b 3
     have z0:=zBn hR1b 0
     have z1:=zBn hR1b 1
     have z2:=zBn hR1b 2
     have z3:=zBn hR1b 3
     have hb01:Below w.heap.size w W1:=hb0.trans (hb1.mono (by omega))
     have HF:Hid _:=(⟨hR1b,hb01⟩:_∧_)
     clear hb01
     go_wp2_with fail
     obtain ⟨f1,f2⟩:=zPn HF.out.1 (.string ⟨(modS i).toArray⟩) (.slice (some ⟨g,0,none⟩) ops.length oc) (.slice (some ⟨gl,0,none⟩) lines.length lc) (.slice ko kn kc)
     have f3:=HF.out.2.trans (f2.below HF.out.2.size (by simp))
     have f4:=Kept.of_below (S:=[]) f3
     exact bodyPost_ret (zRm _ _ (w.heap.size+1) _ _ _ _ (by simp) f1) rfl ⟨_,_,ops,lines,rfl,.inl ⟨rfl,rfl⟩,zzF hHo.out.1 f4 (by simp),zzF hHo.out.2.1 f4 (by simp),f3⟩
   · have hr':(o.ret == 0)=false:=by simp [hr]
     have e0:W1.cell? ⟨w.heap.size+2,0,none⟩=some (.int .i64 o.id):=zBk hO1 0
     have e1:W1.cell? ⟨w.heap.size+2,1,none⟩=some (.int .i64 o.cl):=zBk hO1 1
     have e2:W1.cell? ⟨w.heap.size+2,2,none⟩=some (.string ⟨o.name.toArray⟩):=zBk hO1 2
     have e3:W1.cell? ⟨w.heap.size+2,3,none⟩=some (.string ⟨o.key.toArray⟩):=zBk hO1 3
     have e4:W1.cell? ⟨w.heap.size+2,4,none⟩=some (.int .i64 o.arg):=zBk hO1 4
     have e5:W1.cell? ⟨w.heap.size+2,5,none⟩=some (.int .i64 o.exp):=zBk hO1 5
     have e6:W1.cell? ⟨w.heap.size+2,6,none⟩=some (.int .i64 o.call):=zBk hO1 6
     have e8:W1.cell? ⟨w.heap.size+2,8,none⟩=some (.int .i64 o.vk):=zBk hO1 8
     have e9:W1.cell? ⟨w.heap.size+2,9,none⟩=some (.int .i64 o.vn):=zBk hO1 9
     have hmem:=List.mem_of_getElem? hHo.out.2.2.1
     obtain ⟨⟨k',hk',hname⟩,_,_,_,hgive⟩:=hHo.out.2.2.2.gives hi o hmem
     have hval:=zy9 (hgive hr k' hk' hname)
     have hval2:=z3e (zY5 hk' (hgive hr k' hk' hname))
     rw [←hname] at hval2
     have hot:=fun W=>zvr o.id o.cl o.name o.key o.arg o.exp o.call o.ret o.vk o.vn W hval
     unfold opA at hot
     generalize hRR:z2F o.name o.vk o.vn=R at hot hval2
     have HRR:Hid _:=hRR
     clear hRR hgive hname hval
     go_wp2_with fail
     refine (hot _).mono ?_
     rintro e W2 ⟨rfl,hb2⟩
     have hT2b:=(hb2.block _ (zBq hT1b)).trans hT1b
     have hR2b:=(hb2.block _ (zBq hR1b)).trans hR1b
     have hO2:=(hb2.block _ (zBq hO1)).trans hO1
     have d8:W2.cell? ⟨w.heap.size+2,8,none⟩=some (.int .i64 o.vk):=zBk hO2 8
     have d9:W2.cell? ⟨w.heap.size+2,9,none⟩=some (.int .i64 o.vn):=zBk hO2 9
     have z8:=zBn hO2 8
     have z9:=zBn hO2 9
     have hs1:W1.heap.size=w.heap.size+3:=by rw [←hW1];simp;omega
     have hs2:=hb2.size
     obtain ⟨W3,hW3⟩:∃ W3,((W2.setCell ⟨w.heap.size+2,8,none⟩ (.int .i64 R.1)).setCell ⟨w.heap.size+2,9,none⟩ (.int .i64 R.2)).alloc (.cells #[.slice none 0 0,.int .i64 0] 35)=W3:=⟨_,rfl⟩
     have hk3:Kept [w.heap.size+2] W2 W3:=by rw [←hW3];exact (((Kept.refl _ _).setCell (p:=⟨w.heap.size+2,8,none⟩) (Or.inl (by simp)) _).setCell (p:=⟨w.heap.size+2,9,none⟩) (Or.inl (by simp)) _).alloc _
     have hD3:W3.heap[W2.heap.size]?=some (.cells #[.slice none 0 0,.int .i64 0] 35 (0,0)):=by rw [←hW3];exact ziF _ _ _ (by simp)
     have hO3:W3.heap[w.heap.size+2]?=some (.cells #[.int .i64 o.id,.int .i64 o.cl,.string ⟨o.name.toArray⟩,.string ⟨o.key.toArray⟩,.int .i64 o.arg,.int .i64 o.exp,.int .i64 o.call,.int .i64 o.ret,.int .i64 R.1,.int .i64 R.2] 48 (0,0)):=by
      rw [←hW3,zD1 _ _ _ (by simp;omega),zFg (zFg hO2 8 _) 9 _];rfl
     have hT3:=(hk3.block _ (zBq hT2b) (by simp)).trans hT2b
     have hR3:=(hk3.block _ (zBq hR2b) (by simp)).trans hR2b
     have hb02:Below w.heap.size w W2:=(hb0.trans (hb1.mono (by omega))).trans (hb2.mono (by omega))
     have hb03:Below w.heap.size w W3:=hb02.trans (hk3.below (by omega) (by simp))
     have hln3:=zzF hHo.out.2.1 (Kept.of_below (S:=[]) hb03) (by simp)
     have ho3:=zzF hHo.out.1 (Kept.of_below (S:=[]) hb03) (by simp)
     obtain ⟨a4,c4,W4,hrun4,hown4,hb4⟩:=zCF W3 base gl lc lines hln3 (by omega)
     obtain ⟨g4,rfl,hg4⟩:∃ g4,a4=some ⟨g4,0,none⟩∧W3.heap.size≤g4:=by
      rcases zzD hown4 with ⟨_,e⟩ | ⟨g4,cp,e,_,e2,_⟩
      · omega
      · injection e with e;exact ⟨g4,e,e2⟩
     have hs3:W3.heap.size=W2.heap.size+1:=by rw [←hW3];simp
     have t2:W3.cell? ⟨w.heap.size,2,none⟩=some (.slice (some ⟨gl,0,none⟩) lines.length lc):=zBk hT3 2
     have HH3:Hid _:=(⟨hO3,hT3,hR3,hD3,ho3,hb03,hown4,hb4⟩:_∧_∧_∧_∧_∧_∧_∧_)
     clear hO3 hT3 hR3 hD3 ho3 hb03 hown4 hb4 hln3 hb02 hk3 hO2 hT2b hR2b hot e0 e1 e2 e3 e4 e5 e6 e8 e9 e7 q0 q1 q2 q3 q4 q5 q6 q7 q8 q9 hT1
     go_wp2_with (at_builtin;refine zOu rfl _ _ 24 rfl _ _ _ _ rfl rfl hrun4 ?_)
     obtain ⟨hO3,hT3,hR3,hD3,ho3,hb03,hown4,hb4⟩:=HH3.out
     have hO4:=(hb4.block _ (zBq hO3)).trans hO3
     have hD4:Dice W4 W2.heap.size (.slice none 0 0) [] []:=⟨⟨0,Nat.le_refl _,rfl,(hb4.block _ (zBq hD3)).trans hD3⟩,⟨none,0,rfl,fun h=>absurd rfl h⟩,by decide,by simp⟩
     have x0:W4.cell? ⟨w.heap.size+2,0,none⟩=some (.int .i64 o.id):=zBk hO4 0
     have x1:W4.cell? ⟨w.heap.size+2,1,none⟩=some (.int .i64 o.cl):=zBk hO4 1
     have x2:W4.cell? ⟨w.heap.size+2,2,none⟩=some (.string ⟨o.name.toArray⟩):=zBk hO4 2
     have x3:W4.cell? ⟨w.heap.size+2,3,none⟩=some (.string ⟨o.key.toArray⟩):=zBk hO4 3
     have x4:W4.cell? ⟨w.heap.size+2,4,none⟩=some (.int .i64 o.arg):=zBk hO4 4
     have x5:W4.cell? ⟨w.heap.size+2,5,none⟩=some (.int .i64 o.exp):=zBk hO4 5
     have x6:W4.cell? ⟨w.heap.size+2,6,none⟩=some (.int .i64 o.call):=zBk hO4 6
     have x7:W4.cell? ⟨w.heap.size+2,7,none⟩=some (.int .i64 o.ret):=zBk hO4 7
     have x8:W4.cell? ⟨w.heap.size+2,8,none⟩=some (.int .i64 R.1):=zBk hO4 8
     have x9:W4.cell? ⟨w.heap.size+2,9,none⟩=some (.int .i64 R.2):=zBk hO4 9
     have hrin:=((hHo.out.2.2.2.lines_in) o hmem).2.2.1 hr
     obtain ⟨rn,hrn⟩:∃ rn:Nat,o.ret=(rn:Int)+1:=⟨(o.ret - 1).toNat,by omega⟩
     have hrl:rn < lines.length:=by omega
     have hw1:IntKind.i64.wrap (o.ret - 1)=(rn:Int):=by rw [z6Xb (by omega) (by omega)];omega
     have hids:=(hHo.out.2.2.2.ids) k o hHo.out.2.2.1
     have hans:=fun W (hd:Dice W W2.heap.size (.slice none 0 0) [] [])=>zRZ W2.heap.size (.slice none 0 0) [] [] o.id o.cl o.name o.key o.arg o.exp o.call o.ret R.1 R.2 W hd (by omega) (by omega) hval2
     unfold opA at hans
     generalize hAL:zZ7 o.id R.1 R.2 []=AL at hans
     have hl4:(strCells lines).length=lines.length:=zY1 lines
     obtain ⟨cur,hblk4,hcur⟩:∃ cur,W4.heap[g4]?=some (.cells cur 9 (0,0))∧cur[rn]?=some (.string ⟨lines[rn].toArray⟩):=by
      have hy:=hown4.cells (g:=g4) rfl rn (.string ⟨lines[rn].toArray⟩) (by unfold strCells;rw [List.getElem?_map,List.getElem?_eq_getElem hrl];rfl)
      rw [Addr.add_lit,Nat.zero_add] at hy
      rcases hown4.2 with ⟨h1,_⟩ | ⟨g',cap',cur,h1,_,hgb',_⟩
      · cases h1
      · injection h1 with h1;injection h1 with h1;injection h1 with h1;subst h1
        exact ⟨cur,hgb',(zBk hgb' rn).symm.trans hy⟩
     have hg4l:=zBq hblk4
     have hne4:g4∉[W2.heap.size]:=by simp;omega
     have hlB:=zBq hO4
     have hneB:w.heap.size+2∉[W2.heap.size]:=by simp;omega
     have hneG:w.heap.size+2≠g4:=by omega
     have hD4d:=hD4.below ((Below.refl _ _).drew)
     have HX4:Hid _:=(⟨hown4,hAL⟩:_∧_)
     have HB4:Hid _:=(⟨hb4,hg4,hrn,hrl,hs3,hs2,hs1,hs0⟩:_∧_∧_∧_∧_∧_∧_∧_)
     clear hO3 hT3 hR3 hD3 ho3 hb03 hown4 hb4 hids hrin t2 d8 d9 z8 z9 hW3 hW1 hrun4 hAL hrn
     go_cut [44] (fun a wx=>wx.ownsRow W3.heap.size 9 1 (.slice (some ⟨g4,0,none⟩) lines.length c4) lines.length (strCells (lines.set rn AL.1))∧Kept [W2.heap.size,g4] W4 wx)
     case first=>
      go_region_held3 (fun w'=>w'.cell? ⟨w.heap.size+2,0,none⟩=some (.int .i64 o.id)∧w'.cell? ⟨w.heap.size+2,1,none⟩=some (.int .i64 o.cl)∧w'.cell? ⟨w.heap.size+2,2,none⟩=some (.string ⟨o.name.toArray⟩)∧w'.cell? ⟨w.heap.size+2,3,none⟩=some (.string ⟨o.key.toArray⟩)∧w'.cell? ⟨w.heap.size+2,4,none⟩=some (.int .i64 o.arg)∧w'.cell? ⟨w.heap.size+2,5,none⟩=some (.int .i64 o.exp)∧w'.cell? ⟨w.heap.size+2,6,none⟩=some (.int .i64 o.call)∧w'.cell? ⟨w.heap.size+2,7,none⟩=some (.int .i64 o.ret)∧w'.cell? ⟨w.heap.size+2,8,none⟩=some (.int .i64 R.1)∧w'.cell? ⟨w.heap.size+2,9,none⟩=some (.int .i64 R.2)) (first | (with_reducible exact hS5) | (with_reducible exact hS6 _) | go_keep) (first
       | (go_at_call 21;refine (hans _ hD4d).mono ?_;rintro e w5 ⟨rfl,hd5,hk5⟩;have vo:=(hk5.block (w.heap.size+2) hlB hneB).trans hO4;have hS5:=ze6 vo;have hS6:=fun v=>ze6 ((Below.heap_setCell w5 ⟨g4,rn,none⟩ v (w.heap.size+2) hneG).trans vo);have vb:=(hk5.block g4 hg4l hne4).trans hblk4;have v0:=(zBk vb rn).trans hcur;have v1:=zBn vb rn;have HV:=srch.Hid.mk' hk5;clear hd5 hk5 vb vo))
      go_wp2
      go_meet
      have hk6:Kept [W2.heap.size] W4 w5:=((Kept.refl _ _).drew).trans HV.out
      refine ⟨?_,(hk6.mono (by intro x _ h;simp at h ⊢;exact .inl h)).setCell (p:=⟨g4,rn,none⟩) (Or.inl (by simp)) _⟩
      have h6:=zUj (z1O HX4.out.1 hk6 (fun q hq=>by simp [Value.ownBlock] at hq;subst hq;exact hne4)) rn (.string ⟨AL.1.toArray⟩) (by omega)
      rw [show strCells (lines.set rn AL.1)=(strCells lines).set rn (.string ⟨AL.1.toArray⟩) by unfold strCells;rw [List.map_set]]
      exact h6
     case rest=>
      obtain ⟨hown5,hk5⟩:=hcut
      obtain ⟨hO3,hT3,hR3,hD3,ho3,hb03,hown4',hb4⟩:=HH3.out
      have hb05:Below w.heap.size w wc:=(hb03.trans (hb4.mono (by have:=hb03.size;omega))).trans (hk5.below (by have:=hb4.size;omega) (by simp;omega))
      have hO5:=(hk5.block _ (zBq hO4) (by simp;omega)).trans hO4
      have hT4:=(hb4.block _ (zBq hT3)).trans hT3
      have hT5:=(hk5.block _ (zBq hT4) (by simp;omega)).trans hT4
      have hR4:=(hb4.block _ (zBq hR3)).trans hR3
      have hR5:=(hk5.block _ (zBq hR4) (by simp;omega)).trans hR4
      obtain ⟨W6,hW6⟩:∃ W6,wc.setCell ⟨w.heap.size,2,none⟩ (.slice (some ⟨g4,0,none⟩) lines.length c4)=W6:=⟨_,rfl⟩
      have hk6:Kept [w.heap.size] wc W6:=by rw [←hW6];exact (Kept.refl _ _).setCell (p:=⟨w.heap.size,2,none⟩) (Or.inl (by simp)) _
      have hT6:W6.heap[w.heap.size]?=some (.cells #[.string ⟨(modS i).toArray⟩,.slice (some ⟨g,0,none⟩) ops.length oc,.slice (some ⟨g4,0,none⟩) lines.length c4,.slice ko kn kc] 26 (0,0)):=by rw [←hW6,zFg hT5 2 _];rfl
      have hO6:=(hk6.block _ (zBq hO5) (by simp)).trans hO5
      have hR6:=(hk6.block _ (zBq hR5) (by simp)).trans hR5
      have hb06:Below w.heap.size w W6:=hb05.trans (hk6.below hb05.size (by simp))
      have hl6:=z1O hown5 hk6 (fun q hq=>by simp [Value.ownBlock] at hq;subst hq;simp;omega)
      have ho6:=zzF hHo.out.1 (Kept.of_below (S:=[]) hb06) (by simp)
      obtain ⟨a7,c7,W7,hrun7,hown7,hb7⟩:=zDC W6 base g oc ops ho6 (by omega)
      obtain ⟨g7,rfl,hg7⟩:∃ g7,a7=some ⟨g7,0,none⟩∧W6.heap.size≤g7:=by
       rcases zzD hown7 with ⟨_,e⟩ | ⟨g7,cp,e,_,e2,_⟩
       · omega
       · injection e with e;exact ⟨g7,e,e2⟩
      have hT7:=(hb7.block _ (zBq hT6)).trans hT6
      have hO7:=(hb7.block _ (zBq hO6)).trans hO6
      have hR7:=(hb7.block _ (zBq hR6)).trans hR6
      have hl7:=zzF hl6 (Kept.of_below (S:=[]) hb7) (by simp)
      obtain ⟨cur7,hblk7,hcur7⟩:∃ cur,W7.heap[g7]?=some (.cells cur 48 (0,0))∧∀ c,c < 10→∃ u,cur[k*10+c]?=some u:=by
       have hy:=zDA hown7
       rcases hown7.2 with ⟨h1,_⟩ | ⟨g',cap',cur,h1,_,hgb',_⟩
       · cases h1
       · injection h1 with h1;injection h1 with h1;injection h1 with h1;subst h1
         refine ⟨cur,hgb',fun c hc=>?_⟩
         have hlt:k*10+c < (opsRow ops).length:=by rw [zFI];omega
         exact ⟨_,(zBk hgb' _).symm.trans (hy _ _ (List.getElem?_eq_getElem hlt))⟩
      have b2:=zBk hT5 2
      have b2z:=zBn hT5 2
      have b1:W6.cell? ⟨w.heap.size,1,none⟩=some (.slice (some ⟨g,0,none⟩) ops.length oc):=zBk hT6 1
      obtain ⟨p0,p1,p2,p3,p4,p5,p6,p7,p8,p9⟩:=ze6 hO7
      obtain ⟨m0,hm0⟩:=hcur7 0 (by decide)
      have s0:W7.cell? ⟨g7,k*10,none⟩=some m0:=(zBk hblk7 _).trans hm0
      have sz0:=zBn hblk7 (k*10)
      obtain ⟨m1,hm1⟩:=hcur7 1 (by decide)
      have s1:W7.cell? ⟨g7,k*10+1,none⟩=some m1:=(zBk hblk7 _).trans hm1
      have sz1:=zBn hblk7 (k*10+1)
      obtain ⟨m2,hm2⟩:=hcur7 2 (by decide)
      have s2:W7.cell? ⟨g7,k*10+2,none⟩=some m2:=(zBk hblk7 _).trans hm2
      have sz2:=zBn hblk7 (k*10+2)
      obtain ⟨m3,hm3⟩:=hcur7 3 (by decide)
      have s3:W7.cell? ⟨g7,k*10+3,none⟩=some m3:=(zBk hblk7 _).trans hm3
      have sz3:=zBn hblk7 (k*10+3)
      obtain ⟨m4,hm4⟩:=hcur7 4 (by decide)
      have s4:W7.cell? ⟨g7,k*10+4,none⟩=some m4:=(zBk hblk7 _).trans hm4
      have sz4:=zBn hblk7 (k*10+4)
      obtain ⟨m5,hm5⟩:=hcur7 5 (by decide)
      have s5:W7.cell? ⟨g7,k*10+5,none⟩=some m5:=(zBk hblk7 _).trans hm5
      have sz5:=zBn hblk7 (k*10+5)
      obtain ⟨m6,hm6⟩:=hcur7 6 (by decide)
      have s6:W7.cell? ⟨g7,k*10+6,none⟩=some m6:=(zBk hblk7 _).trans hm6
      have sz6:=zBn hblk7 (k*10+6)
      obtain ⟨m7,hm7⟩:=hcur7 7 (by decide)
      have s7:W7.cell? ⟨g7,k*10+7,none⟩=some m7:=(zBk hblk7 _).trans hm7
      have sz7:=zBn hblk7 (k*10+7)
      obtain ⟨m8,hm8⟩:=hcur7 8 (by decide)
      have s8:W7.cell? ⟨g7,k*10+8,none⟩=some m8:=(zBk hblk7 _).trans hm8
      have sz8:=zBn hblk7 (k*10+8)
      obtain ⟨m9,hm9⟩:=hcur7 9 (by decide)
      have s9:W7.cell? ⟨g7,k*10+9,none⟩=some m9:=(zBk hblk7 _).trans hm9
      have sz9:=zBn hblk7 (k*10+9)
      obtain ⟨W8,hW8⟩:∃ W8,((((((((((W7.setCell ⟨g7,k*10,none⟩ (.int .i64 o.id)).setCell ⟨g7,k*10+1,none⟩ (.int .i64 o.cl)).setCell ⟨g7,k*10+2,none⟩ (.string ⟨o.name.toArray⟩)).setCell ⟨g7,k*10+3,none⟩ (.string ⟨o.key.toArray⟩)).setCell ⟨g7,k*10+4,none⟩ (.int .i64 o.arg)).setCell ⟨g7,k*10+5,none⟩ (.int .i64 o.exp)).setCell ⟨g7,k*10+6,none⟩ (.int .i64 o.call)).setCell ⟨g7,k*10+7,none⟩ (.int .i64 o.ret)).setCell ⟨g7,k*10+8,none⟩ (.int .i64 R.1)).setCell ⟨g7,k*10+9,none⟩ (.int .i64 R.2))=W8:=⟨_,rfl⟩
      obtain ⟨hown8,hk8⟩:W8.ownsRow W6.heap.size 48 10 (.slice (some ⟨g7,0,none⟩) ops.length c7) ops.length (opsRow (ops.set k { o with vk:=R.1,vn:=R.2 }))∧Kept [g7] W7 W8:=by
       rw [←hW8];exact zBU hown7 hkl { o with vk:=R.1,vn:=R.2 }
      have hz6a:=zBq hT6
      have hz6b:=zBq hR6
      have hT8:=(hk8.block _ (zBq hT7) (by simp;omega)).trans hT7
      have hR8:=(hk8.block _ (zBq hR7) (by simp;omega)).trans hR7
      have hl8:=z1O hl7 hk8 (fun q hq=>by simp [Value.ownBlock] at hq;subst hq;have:=(hl6.lt g4 (by simp [Value.ownBlock])).2;simp;omega)
      obtain ⟨W9,hW9⟩:∃ W9,W8.setCell ⟨w.heap.size,1,none⟩ (.slice (some ⟨g7,0,none⟩) ops.length c7)=W9:=⟨_,rfl⟩
      have hk9:Kept [w.heap.size] W8 W9:=by rw [←hW9];exact (Kept.refl _ _).setCell (p:=⟨w.heap.size,1,none⟩) (Or.inl (by simp)) _
      have hT9:W9.heap[w.heap.size]?=some (.cells #[.string ⟨(modS i).toArray⟩,.slice (some ⟨g7,0,none⟩) ops.length c7,.slice (some ⟨g4,0,none⟩) lines.length c4,.slice ko kn kc] 26 (0,0)):=by rw [←hW9,zFg hT8 1 _];rfl
      have hR9:=(hk9.block _ (zBq hR8) (by simp)).trans hR8
      have hl9:=z1O hl8 hk9 (fun q hq=>by simp [Value.ownBlock] at hq;subst hq;simp;omega)
      have ho9:=z1O hown8 hk9 (fun q hq=>by simp [Value.ownBlock] at hq;subst hq;have:=hb06.size;simp;omega)
      have hb09:Below w.heap.size w W9:=((hb06.trans (hb7.mono hb06.size)).trans (hk8.below (by have:=hb06.size;have:=hb7.size;omega) (by have:=hb06.size;simp;omega))).trans (hk9.below (by have:=hb06.size;have:=hb7.size;have:=hk8.size;omega) (by simp))
      have n1:=zBk hT8 1
      have n1z:=zBn hT8 1
      have u0:W9.cell? ⟨w.heap.size,0,none⟩=some (.string ⟨(modS i).toArray⟩):=zBk hT9 0
      have u1:W9.cell? ⟨w.heap.size,1,none⟩=some (.slice (some ⟨g7,0,none⟩) ops.length c7):=zBk hT9 1
      have u2:W9.cell? ⟨w.heap.size,2,none⟩=some (.slice (some ⟨g4,0,none⟩) lines.length c4):=zBk hT9 2
      have u3:W9.cell? ⟨w.heap.size,3,none⟩=some (.slice ko kn kc):=zBk hT9 3
      have r0:=zBk hR9 0
      have r1:=zBk hR9 1
      have r2:=zBk hR9 2
      have r3:=zBk hR9 3
      have rz0:=zBn hR9 0
      have rz1:=zBn hR9 1
      have rz2:=zBn hR9 2
      have rz3:=zBn hR9 3
      have HY:Hid _:=(⟨hR9,hl9,ho9,hb09⟩:_∧_∧_∧_)
      clear hO3 hT3 hR3 hD3 ho3 hb03 hown4' hb4 hb05 hO5 hT4 hT5 hR4 hR5 hk6 hT6 hO6 hR6 hb06 hl6 ho6 hown7 hb7 hT7 hO7 hR7 hl7 hown5 hk5 x0 x1 x2 x3 x4 x5 x6 x7 x8 x9 hcur7 hblk7 hm0 hm1 hm2 hm3 hm4 hm5 hm6 hm7 hm8 hm9 hown8 hk8 hT8 hR8 hl8 hk9 hT9 hR9 hl9 ho9 hb09
      go_wp2_with (at_builtin;refine zOu rfl _ _ 23 rfl _ _ _ _ rfl rfl hrun7 ?_)
      obtain ⟨f1,f2⟩:=zPn HY.out.1 (.string ⟨(modS i).toArray⟩) (.slice (some ⟨g7,0,none⟩) ops.length c7) (.slice (some ⟨g4,0,none⟩) lines.length c4) (.slice ko kn kc)
      have hb9:=HY.out.2.2.2
      have f3:=hb9.trans (f2.below hb9.size (by simp))
      obtain ⟨-,-,hrn,-⟩:=HB4.out
      have eT:twL lines o=lines.set rn AL.1:=by
       unfold twL
       rw [HRR.out,HX4.out.2,show (o.ret - 1).toNat=rn by omega]
      have eO:twO ops k o=ops.set k { o with vk:=R.1,vn:=R.2 }:=by
       unfold twO
       rw [HRR.out]
      have l1:(twL lines o).length=lines.length:=by rw [eT];simp
      have l2:(twO ops k o).length=ops.length:=by rw [eO];simp
      refine bodyPost_ret (zRm _ _ (w.heap.size+1) _ _ _ _ (by simp) f1) rfl ⟨_,_,twO ops k o,twL lines o,rfl,.inr ⟨k,o,hHo.out.2.2.1,hr,rfl,rfl⟩,?_,?_,f3⟩
      · rw [l2,eO]
        exact z5S (z1O HY.out.2.2.1 f2 (fun q hq=>by simp [Value.ownBlock] at hq;subst hq;simp;omega)) (by omega)
      · rw [l1,eT]
        exact z5S (z1O HY.out.2.1 f2 (fun q hq=>by simp [Value.ownBlock] at hq;subst hq;simp;omega)) (by omega)
end Go.Proofs.YtlkidmafomjhgaaGreatDoor.keep
