/- Several texts in one. -/
import Derived.Test.YtlkidmafomjhgaaGreatDoorSrchFF
import Derived.Lib.SliceRun
set_option maxHeartbeats 2000000
set_option maxRecDepth 100000
namespace Go.Proofs.YtlkidmafomjhgaaGreatDoor.srch
open Go.RowKit
theorem zFI (ops:List OpV):(opsRow ops).length=ops.length*10:=by
 induction ops with
 | nil=>rfl
 | cons o r ih=>
   rw [show opsRow (o::r)=opvCells o++opsRow r from rfl,List.length_append,ih,List.length_cons]
   show 10+r.length*10=_
   omega
theorem zlv (ops:List OpV):∀ u∈opsRow ops,u.oneCell'=true:=by
 intro u hu
 obtain ⟨o,_,h⟩:=List.mem_flatMap.1 hu
 simp [opvCells] at h
 rcases h with rfl | rfl | rfl | rfl | rfl | rfl | rfl | rfl | rfl | rfl <;> rfl
theorem zR8 (oa:Option Addr) (cap:Nat) (ops:List OpV) (w:World) (hr:OAt w oa ops) (hl:ops.length≤128):
 Calls Tryz.prog 115 #[.slice oa ops.length cap] w fun e w'=>∃ a c,e=.returned (.slice a ops.length c)∧w'.ownsRow w.heap.size 48 10 (.slice a ops.length c) ops.length (opsRow ops)∧Below w.heap.size w w':=by
 have hq:∀ (W:World) (a:Option Addr) (n c n' c':Nat),(binOp .eql 23 (.slice a n c) (.slice none n' c')).run Tryz.prog W=.ok (.bool a.isNone) W:=fun W a n c n' c'=>Lib.run_eql_slice_nil W _ _ a n c n' c' Tryz.underlying23
 cases oa with
 | none=>
   have hn:ops=[]:=by
    by_cases h:ops=[]
    · exact h
    · obtain ⟨g,h1,_⟩:=hr h
      simp at h1
   subst hn
   go_enter Tryz.func115,Tryz.ntmps115
   go_wp2_with fail
   go_ret
   exact ⟨none,0,rfl,World.ownsRow_nil _ _ _ _,Below.refl _ _⟩
 | some ad=>
   obtain ⟨i0,hi0',hz0,hz1,hz2⟩:=info_parts zSl
   have HR:=Hid.mk' hr
   clear hr
   go_enter Tryz.func115,Tryz.ntmps115
   go_wp2_with (at_builtin;refine wpList_append_own _ rfl _ _ 23 rfl w.heap.size 48 i0 _ 10 96 Tryz.underlying23 hi0' hz0 hz1 hz2 rfl (by decide) _ _ _ rfl (World.ownsRow_made w #[] 0 (Nat.le_refl _) (Nat.zero_le _) rfl) ad ops.length cap (opsRow ops) rfl ?qc1 ?qc2 ?qc3 ?qc4 ?qc5 ?qc6 ?_)
   case qc1=>exact zFI ops
   case qc2=>
    intro j u hj
    have hne:ops≠[]:=by intro h;rw [h] at hj;simp [opsRow] at hj
    obtain ⟨g,h1,h2,h3⟩:=HR.out hne
    injection h1 with h1
    subst h1
    rw [Addr.add_lit,Nat.zero_add]
    exact Lib.cell?_alloc_some _ (h3 j u hj)
   case qc3=>exact zlv ops
   case qc4=>unfold maxLen;omega
   case qc5=>omega
   case qc6=>simp
   intro v' w1 hown hgrow hnil
   obtain ⟨a',c',rfl⟩:=zIW hown
   go_wp2
   go_ret
   exact ⟨a',c',rfl,hown,((Below.refl _ w).alloc (Nat.le_refl _) _).grown hgrow (by simp) (by intro k hk;simp [Value.ownBlock] at hk;omega)⟩
abbrev Hap:=Int×OpV
def hapCells (h:Hap):List Value:=.int .i64 h.1::opvCells h.2
def hapRow (l:List Hap):List Value:=l.flatMap hapCells
def hapF (s:Int×List Hap) (o:OpV):Int×List Hap:=(max s.1 o.call,s.2++[(max s.1 o.call,o)])
def hapsOf (ops:List OpV):Int×List Hap:=ops.foldl hapF (0,[])
theorem zcX (ops:List OpV) (j:Nat) (h:j < ops.length):hapsOf (ops.take (j+1))=hapF (hapsOf (ops.take j)) ops[j]:=by
 unfold hapsOf
 rw [List.take_succ_eq_append_getElem h,List.foldl_append]
 rfl
theorem zVO:(Tryz.prog.info? 171).map (fun i=>(i.zero,i.size,i.bytes))=some (some (.agg #[.int .i64 0,.int .i64 0,.int .i64 0,.string ⟨#[]⟩,.string ⟨#[]⟩,.int .i64 0,.int .i64 0,.int .i64 0,.int .i64 0,.int .i64 0,.int .i64 0]),11,104):=by kernel_rfl
theorem zRU (W:World) (base:Nat) (a:Option Addr) (n c:Nat) (xs:List Value) (m:Int) (s:OpV) (h:W.ownsRow base 171 11 (.slice a n c) n xs) (hn:n≤1000) (hb:base≤W.heap.size):
 ∃ a' c' w',(Builtin.append_ #[167,167] 167 #[.slice a n c,.slice (some ⟨W.heap.size,0,none⟩) 1 1]).run Tryz.prog (W.alloc (.cells #[.int .i64 m,.int .i64 s.id,.int .i64 s.cl,.string ⟨s.name.toArray⟩,.string ⟨s.key.toArray⟩,.int .i64 s.arg,.int .i64 s.exp,.int .i64 s.call,.int .i64 s.ret,.int .i64 s.vk,.int .i64 s.vn] 171))=.ok (.slice a' (n+1) c') w'∧w'.ownsRow base 171 11 (.slice a' (n+1) c') (n+1) (xs++hapCells (m,s))∧Below base W w':=by
 obtain ⟨i0,hi0',hz0,hz1,hz2⟩:=info_parts zVO
 obtain ⟨v7,w7,h1,h2,h3,_⟩:=run_append_own (P:=Tryz.prog) (W.alloc (.cells (hapCells (m,s)).toArray 171)) base 167 167 171 i0 _ 11 104 Tryz.underlying167 hi0' hz0 hz1 hz2 rfl (by decide) (.slice a n c) n xs (h.alloc _) ⟨W.heap.size,0,none⟩ 1 1 (hapCells (m,s)) rfl (z9R W _ _) (by intro u hu;simp [hapCells,opvCells] at hu;rcases hu with rfl | rfl | rfl | rfl | rfl | rfl | rfl | rfl | rfl | rfl | rfl <;> rfl) (by unfold maxLen;omega) (by omega) (by simp;omega)
 obtain ⟨a',c',rfl⟩:=zIW h2
 have hrow:∀ g,(Value.slice a n c).ownBlock=some g→base≤g:=zYv h
 have hk:Kept (Value.slice a n c).ownBlock.toList W w7:=((Kept.refl _ W).alloc _).grownS h3 (fun g' hg'=>by rw [hg'];simp)
 exact ⟨a',c',w7,h1,h2,hk.below hb (fun g hg=>hrow g (by simpa using hg))⟩
theorem zc6 (oa:Option Addr) (cap:Nat) (ops:List OpV) (w:World) (hr:OAt w oa ops) (hl:ops.length≤128):
 Calls Tryz.prog 89 #[.slice oa ops.length cap] w fun e w'=>∃ a c,e=.returned (.slice a ops.length c)∧w'.ownsRow w.heap.size 171 11 (.slice a ops.length c) ops.length (hapRow (hapsOf ops).2)∧Below w.heap.size w w':=by
 go_enter Tryz.func89,Tryz.ntmps89
 go_wp2_with fail
 go_loopw [3,4,9] (fun s ln i wr=>∃ (j:Nat) (a:Option Addr) (c:Nat),s=.slice a j c∧ln=.int .i64 (hapsOf (ops.take j)).1∧i=.int .i64 (j:Int)∧j≤ops.length∧wr.ownsRow w.heap.size 171 11 (.slice a j c) j (hapRow (hapsOf (ops.take j)).2)∧Below w.heap.size w wr) (fun _ _ i _=>ops.length - (intOf i).toNat)
 case atStart=>exact ⟨0,none,0,rfl,rfl,rfl,by omega,World.ownsRow_nil _ _ _ _,Below.refl _ _⟩
 case round=>
  obtain ⟨j,a,c,rfl,rfl,rfl,hj,hown,hbl⟩:=hrel
  by_cases hin:j < ops.length
  · have hin':(j:Int) < (ops.length:Int):=by omega
    have hne:ops≠[]:=by intro h;rw [h] at hin;simp at hin
    obtain ⟨g,rfl,hg,hc⟩:=(hr.below hbl) hne
    have hcell:∀ c u,c < 10→(opvCells ops[j])[c]?=some u→wr.cell? ⟨g,j*10+c,none⟩=some u:=fun c u hcc hu=>hc _ _ ((zvc ops j hin c hcc).trans hu)
    have hT:=Hid.mk' (zcX ops j hin)
    generalize ops[j]=o at*
    generalize hapsOf (ops.take j)=H at*
    obtain ⟨M,L⟩:=H
    have q0:wr.cell? ⟨g,j*10,none⟩=some (.int .i64 o.id):=hcell 0 _ (by omega) rfl
    have q1:=hcell 1 _ (by omega) rfl
    have q2:=hcell 2 _ (by omega) rfl
    have q3:=hcell 3 _ (by omega) rfl
    have q4:=hcell 4 _ (by omega) rfl
    have q5:=hcell 5 _ (by omega) rfl
    have q6:=hcell 6 _ (by omega) rfl
    have q7:=hcell 7 _ (by omega) rfl
    have q8:=hcell 8 _ (by omega) rfl
    have q9:=hcell 9 _ (by omega) rfl
    obtain ⟨W0,hW0⟩:∃ W0,wr.alloc (.cells #[.int .i64 o.id,.int .i64 o.cl,.string ⟨o.name.toArray⟩,.string ⟨o.key.toArray⟩,.int .i64 o.arg,.int .i64 o.exp,.int .i64 o.call,.int .i64 o.ret,.int .i64 o.vk,.int .i64 o.vn] 48)=W0:=⟨_,rfl⟩
    have hb0:Below wr.heap.size wr W0:=by rw [←hW0];exact (Below.refl _ _).alloc (Nat.le_refl _) _
    have hOW:W0.heap[wr.heap.size]?=some (.cells #[.int .i64 o.id,.int .i64 o.cl,.string ⟨o.name.toArray⟩,.string ⟨o.key.toArray⟩,.int .i64 o.arg,.int .i64 o.exp,.int .i64 o.call,.int .i64 o.ret,.int .i64 o.vk,.int .i64 o.vn] 48 (0,0)):=by rw [←hW0];exact ziF _ _ _ rfl
    have r0:=zBk hOW 0
    have r1:=zBk hOW 1
    have r2:=zBk hOW 2
    have r3:=zBk hOW 3
    have r4:=zBk hOW 4
    have r5:=zBk hOW 5
    have r6:=zBk hOW 6
    have r7:=zBk hOW 7
    have r8:=zBk hOW 8
    have r9:=zBk hOW 9
    have hown0:W0.ownsRow w.heap.size 171 11 (.slice a j c) j (hapRow L):=by rw [←hW0];exact hown.alloc _
    have hbl0:=hbl.trans (hb0.mono hbl.size)
    have hfin:Hid (∀ m,m=max M o.call→hapsOf (ops.take (j+1))=(m,L++[(m,o)])):=fun m hm=>by rw [hT.out,hm];rfl
    obtain ⟨m,hm⟩:∃ m,max M o.call=m:=⟨_,rfl⟩
    obtain ⟨a',c',w7,hap,hown7,hb7⟩:=zRU W0 w.heap.size a j c _ m o hown0 (by omega) hbl0.size
    have HX:=Hid.mk' (And.intro hown7 (hbl0.trans hb7))
    have HM:=Hid.mk' hm
    clear hcell hc hown hown0 hbl hbl0 hown7 hb7 hb0 hOW hT
    go_wp2_with (at_builtin;refine zOu rfl _ _ 167 rfl _ _ _ _ rfl rfl hap ?_)
    have hE:=hfin.out m HM.out.symm
    have hRow:hapRow (L++[(m,o)])=hapRow L++hapCells (m,o):=by simp [hapRow]
    go_roundw
    case rel=>exact ⟨j+1,a',c',rfl,by rw [hE],by go_num,by omega,by rw [hE];show World.ownsRow _ _ _ _ _ _ (hapRow (L++[(m,o)]));rw [hRow];exact HX.out.1,HX.out.2⟩
    case measure=>simp [intOf];omega
  · have hin':¬ (j:Int) < (ops.length:Int):=by omega
    obtain rfl:j=ops.length:=by omega
    rw [List.take_length] at hown
    go_wp2
    go_ret
    exact ⟨a,c,rfl,hown,hbl⟩
def zOh (h:Hap):Value:=.agg #[.int .i64 h.1,.int .i64 h.2.id,.int .i64 h.2.cl,.string ⟨h.2.name.toArray⟩,.string ⟨h.2.key.toArray⟩,.int .i64 h.2.arg,.int .i64 h.2.exp,.int .i64 h.2.call,.int .i64 h.2.ret,.int .i64 h.2.vk,.int .i64 h.2.vn]
theorem zvB (oa:Option Addr) (n cap:Nat) (w:World):
 Calls Tryz.prog 46 #[.slice oa n cap] w fun e w'=>e=.returned (.slice (some ⟨w.heap.size,0,none⟩) 1 1)∧w'.heap[w.heap.size]?=some (.cells #[.string ⟨#[45]⟩,.slice oa n cap] 114 (0,0))∧Below w.heap.size w w':=by
 go_enter Tryz.func46,Tryz.ntmps46
 go_wp2_with fail
 go_ret
 exact ⟨rfl,ziF _ _ _ rfl,(Below.refl _ _).alloc (Nat.le_refl _) _⟩
end Go.Proofs.YtlkidmafomjhgaaGreatDoor.srch
