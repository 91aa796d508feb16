/- Several texts in one. -/
import Derived.Test.YtbbkihekjdffpaaGreatDoorSrchFF
import Derived.Lib.AppendIntMem
import Derived.Lib.ItoaLen
import Derived.Lib.SliceRun
import Derived.Lib.SmallJoins
set_option maxHeartbeats 2000000
set_option maxRecDepth 100000
namespace Go.Proofs.YtbbkihekjdffpaaGreatDoor.srch
open Go.RowKit
theorem zFI (ops:List OpV):(opsRow ops).length=ops.length*10:=by
 induction ops with
 | nil=>rfl
 | cons o r ih=>
   rw [show opsRow (o::r)=opvCells o++opsRow r from rfl,List.length_append,ih,List.length_cons]
   show 10+r.length*10=_
   omega
theorem zlv (ops:List OpV):∀ u∈opsRow ops,u.oneCell'=true:=by
 intro u hu
 obtain ⟨o,_,h⟩:=List.mem_flatMap.1 hu
 simp [opvCells] at h
 rcases h with rfl | rfl | rfl | rfl | rfl | rfl | rfl | rfl | rfl | rfl <;> rfl
theorem zR8 (oa:Option Addr) (cap:Nat) (ops:List OpV) (w:World) (hr:OAt w oa ops) (hl:ops.length≤128):
 Calls Tryz.prog 122 #[.slice oa ops.length cap] w fun e w'=>∃ a c,e=.returned (.slice a ops.length c)∧w'.ownsRow w.heap.size 74 10 (.slice a ops.length c) ops.length (opsRow ops)∧Below w.heap.size w w':=by
 have hq:∀ (W:World) (a:Option Addr) (n c n' c':Nat),(binOp .eql 26 (.slice a n c) (.slice none n' c')).run Tryz.prog W=.ok (.bool a.isNone) W:=fun W a n c n' c'=>Lib.run_eql_slice_nil W _ _ a n c n' c' Tryz.underlying26
 cases oa with
 | none=>
   have hn:ops=[]:=by
    by_cases h:ops=[]
    · exact h
    · obtain ⟨g,h1,_⟩:=hr h
      simp at h1
   subst hn
   go_enter Tryz.func122,Tryz.ntmps122
   go_wp2_with fail
   go_ret
   exact ⟨none,0,rfl,World.ownsRow_nil _ _ _ _,Below.refl _ _⟩
 | some ad=>
   obtain ⟨i0,hi0',hz0,hz1,hz2⟩:=info_parts zSl
   have HR:=Hid.mk' hr
   clear hr
   go_enter Tryz.func122,Tryz.ntmps122
   go_wp2_with (at_builtin;refine wpList_append_own _ rfl _ _ 26 rfl w.heap.size 74 i0 _ 10 96 Tryz.underlying26 hi0' hz0 hz1 hz2 rfl (by decide) _ _ _ rfl (World.ownsRow_made w #[] 0 (Nat.le_refl _) (Nat.zero_le _) rfl) ad ops.length cap (opsRow ops) rfl ?qc1 ?qc2 ?qc3 ?qc4 ?qc5 ?qc6 ?_)
   case qc1=>exact zFI ops
   case qc2=>
    intro j u hj
    have hne:ops≠[]:=by intro h;rw [h] at hj;simp [opsRow] at hj
    obtain ⟨g,h1,h2,h3⟩:=HR.out hne
    injection h1 with h1
    subst h1
    rw [Addr.add_lit,Nat.zero_add]
    exact Lib.cell?_alloc_some _ (h3 j u hj)
   case qc3=>exact zlv ops
   case qc4=>unfold maxLen;omega
   case qc5=>omega
   case qc6=>simp
   intro v' w1 hown hgrow hnil
   obtain ⟨a',c',rfl⟩:=zIW hown
   go_wp2
   go_ret
   exact ⟨a',c',rfl,hown,((Below.refl _ w).alloc (Nat.le_refl _) _).grown hgrow (by simp) (by intro k hk;simp [Value.ownBlock] at hk;omega)⟩
abbrev Hap:=Int×OpV
def hapCells (h:Hap):List Value:=.int .i64 h.1::opvCells h.2
def hapRow (l:List Hap):List Value:=l.flatMap hapCells
def hapF (s:Int×List Hap) (o:OpV):Int×List Hap:=(max s.1 o.call,s.2++[(max s.1 o.call,o)])
def hapsOf (ops:List OpV):Int×List Hap:=ops.foldl hapF (0,[])
theorem zcX (ops:List OpV) (j:Nat) (h:j < ops.length):hapsOf (ops.take (j+1))=hapF (hapsOf (ops.take j)) ops[j]:=by
 unfold hapsOf
 rw [List.take_succ_eq_append_getElem h,List.foldl_append]
 rfl
theorem zVO:(Tryz.prog.info? 181).map (fun i=>(i.zero,i.size,i.bytes))=some (some (.agg #[.int .i64 0,.int .i64 0,.int .i64 0,.string ⟨#[]⟩,.string ⟨#[]⟩,.int .i64 0,.int .i64 0,.int .i64 0,.int .i64 0,.int .i64 0,.int .i64 0]),11,104):=by kernel_rfl
theorem zRU (W:World) (base:Nat) (a:Option Addr) (n c:Nat) (xs:List Value) (m:Int) (s:OpV) (h:W.ownsRow base 181 11 (.slice a n c) n xs) (hn:n≤1000) (hb:base≤W.heap.size):
 ∃ a' c' w',(Builtin.append_ #[177,177] 177 #[.slice a n c,.slice (some ⟨W.heap.size,0,none⟩) 1 1]).run Tryz.prog (W.alloc (.cells #[.int .i64 m,.int .i64 s.id,.int .i64 s.cl,.string ⟨s.name.toArray⟩,.string ⟨s.key.toArray⟩,.int .i64 s.arg,.int .i64 s.exp,.int .i64 s.call,.int .i64 s.ret,.int .i64 s.vk,.int .i64 s.vn] 181))=.ok (.slice a' (n+1) c') w'∧w'.ownsRow base 181 11 (.slice a' (n+1) c') (n+1) (xs++hapCells (m,s))∧Below base W w':=by
 obtain ⟨i0,hi0',hz0,hz1,hz2⟩:=info_parts zVO
 obtain ⟨v7,w7,h1,h2,h3,_⟩:=run_append_own (P:=Tryz.prog) (W.alloc (.cells (hapCells (m,s)).toArray 181)) base 177 177 181 i0 _ 11 104 Tryz.underlying177 hi0' hz0 hz1 hz2 rfl (by decide) (.slice a n c) n xs (h.alloc _) ⟨W.heap.size,0,none⟩ 1 1 (hapCells (m,s)) rfl (z9R W _ _) (by intro u hu;simp [hapCells,opvCells] at hu;rcases hu with rfl | rfl | rfl | rfl | rfl | rfl | rfl | rfl | rfl | rfl | rfl <;> rfl) (by unfold maxLen;omega) (by omega) (by simp;omega)
 obtain ⟨a',c',rfl⟩:=zIW h2
 have hrow:∀ g,(Value.slice a n c).ownBlock=some g→base≤g:=zYv h
 have hk:Kept (Value.slice a n c).ownBlock.toList W w7:=((Kept.refl _ W).alloc _).grownS h3 (fun g' hg'=>by rw [hg'];simp)
 exact ⟨a',c',w7,h1,h2,hk.below hb (fun g hg=>hrow g (by simpa using hg))⟩
theorem zd6X (oa:Option Addr) (cap:Nat) (ops:List OpV) (w:World) (hr:OAt w oa ops) (hl:ops.length≤128):
 Calls Tryz.prog 87 #[.slice oa ops.length cap] w fun e w'=>∃ a c,e=.returned (.slice a ops.length c)∧w'.ownsRow w.heap.size 181 11 (.slice a ops.length c) ops.length (hapRow (hapsOf ops).2)∧Below w.heap.size w w':=by
 go_enter Tryz.func87,Tryz.ntmps87
 go_wp2_with fail
 go_loopw [3,4,9] (fun s ln i wr=>∃ (j:Nat) (a:Option Addr) (c:Nat),s=.slice a j c∧ln=.int .i64 (hapsOf (ops.take j)).1∧i=.int .i64 (j:Int)∧j≤ops.length∧wr.ownsRow w.heap.size 181 11 (.slice a j c) j (hapRow (hapsOf (ops.take j)).2)∧Below w.heap.size w wr) (fun _ _ i _=>ops.length - (intOf i).toNat)
 case atStart=>exact ⟨0,none,0,rfl,rfl,rfl,by omega,World.ownsRow_nil _ _ _ _,Below.refl _ _⟩
 case round=>
  obtain ⟨j,a,c,rfl,rfl,rfl,hj,hown,hbl⟩:=hrel
  by_cases hin:j < ops.length
  · have hin':(j:Int) < (ops.length:Int):=by omega
    have hne:ops≠[]:=by intro h;rw [h] at hin;simp at hin
    obtain ⟨g,rfl,hg,hc⟩:=(hr.below hbl) hne
    have hcell:∀ c u,c < 10→(opvCells ops[j])[c]?=some u→wr.cell? ⟨g,j*10+c,none⟩=some u:=fun c u hcc hu=>hc _ _ ((zvc ops j hin c hcc).trans hu)
    have hT:=Hid.mk' (zcX ops j hin)
    generalize ops[j]=o at*
    generalize hapsOf (ops.take j)=H at*
    obtain ⟨M,L⟩:=H
    have q0:wr.cell? ⟨g,j*10,none⟩=some (.int .i64 o.id):=hcell 0 _ (by omega) rfl
    have q1:=hcell 1 _ (by omega) rfl
    have q2:=hcell 2 _ (by omega) rfl
    have q3:=hcell 3 _ (by omega) rfl
    have q4:=hcell 4 _ (by omega) rfl
    have q5:=hcell 5 _ (by omega) rfl
    have q6:=hcell 6 _ (by omega) rfl
    have q7:=hcell 7 _ (by omega) rfl
    have q8:=hcell 8 _ (by omega) rfl
    have q9:=hcell 9 _ (by omega) rfl
    obtain ⟨W0,hW0⟩:∃ W0,wr.alloc (.cells #[.int .i64 o.id,.int .i64 o.cl,.string ⟨o.name.toArray⟩,.string ⟨o.key.toArray⟩,.int .i64 o.arg,.int .i64 o.exp,.int .i64 o.call,.int .i64 o.ret,.int .i64 o.vk,.int .i64 o.vn] 74)=W0:=⟨_,rfl⟩
    have hb0:Below wr.heap.size wr W0:=by rw [←hW0];exact (Below.refl _ _).alloc (Nat.le_refl _) _
    have hOW:W0.heap[wr.heap.size]?=some (.cells #[.int .i64 o.id,.int .i64 o.cl,.string ⟨o.name.toArray⟩,.string ⟨o.key.toArray⟩,.int .i64 o.arg,.int .i64 o.exp,.int .i64 o.call,.int .i64 o.ret,.int .i64 o.vk,.int .i64 o.vn] 74 (0,0)):=by rw [←hW0];exact ziF _ _ _ rfl
    have r0:=zBk hOW 0
    have r1:=zBk hOW 1
    have r2:=zBk hOW 2
    have r3:=zBk hOW 3
    have r4:=zBk hOW 4
    have r5:=zBk hOW 5
    have r6:=zBk hOW 6
    have r7:=zBk hOW 7
    have r8:=zBk hOW 8
    have r9:=zBk hOW 9
    have hown0:W0.ownsRow w.heap.size 181 11 (.slice a j c) j (hapRow L):=by rw [←hW0];exact hown.alloc _
    have hbl0:=hbl.trans (hb0.mono hbl.size)
    have hfin:Hid (∀ m,m=max M o.call→hapsOf (ops.take (j+1))=(m,L++[(m,o)])):=fun m hm=>by rw [hT.out,hm];rfl
    obtain ⟨m,hm⟩:∃ m,max M o.call=m:=⟨_,rfl⟩
    obtain ⟨a',c',w7,hap,hown7,hb7⟩:=zRU W0 w.heap.size a j c _ m o hown0 (by omega) hbl0.size
    have HX:=Hid.mk' (And.intro hown7 (hbl0.trans hb7))
    have HM:=Hid.mk' hm
    clear hcell hc hown hown0 hbl hbl0 hown7 hb7 hb0 hOW hT
    go_wp2_with (at_builtin;refine zOu rfl _ _ 177 rfl _ _ _ _ rfl rfl hap ?_)
    have hE:=hfin.out m HM.out.symm
    have hRow:hapRow (L++[(m,o)])=hapRow L++hapCells (m,o):=by simp [hapRow]
    go_roundw
    case rel=>exact ⟨j+1,a',c',rfl,by rw [hE],by go_num,by omega,by rw [hE];show World.ownsRow _ _ _ _ _ _ (hapRow (L++[(m,o)]));rw [hRow];exact HX.out.1,HX.out.2⟩
    case measure=>simp [intOf];omega
  · have hin':¬ (j:Int) < (ops.length:Int):=by omega
    obtain rfl:j=ops.length:=by omega
    rw [List.take_length] at hown
    go_wp2
    go_ret
    exact ⟨a,c,rfl,hown,hbl⟩
def zOh (h:Hap):Value:=.agg #[.int .i64 h.1,.int .i64 h.2.id,.int .i64 h.2.cl,.string ⟨h.2.name.toArray⟩,.string ⟨h.2.key.toArray⟩,.int .i64 h.2.arg,.int .i64 h.2.exp,.int .i64 h.2.call,.int .i64 h.2.ret,.int .i64 h.2.vk,.int .i64 h.2.vn]
theorem whole_any (oa:Option Addr) (n cap:Nat) (w:World):
 Calls Tryz.prog 22 #[.slice oa n cap] w fun e w'=>e=.returned (.slice (some ⟨w.heap.size,0,none⟩) 1 1)∧w'.heap[w.heap.size]?=some (.cells #[.string ⟨#[45]⟩,.slice oa n cap] 101 (0,0))∧Below w.heap.size w w':=by
 go_enter Tryz.func22,Tryz.ntmps22
 go_wp2_with fail
 go_ret
 exact ⟨rfl,ziF _ _ _ rfl,(Below.refl _ _).alloc (Nat.le_refl _) _⟩
theorem strInfo:(Tryz.prog.info? 9).map (fun i=>(i.zero,i.size,i.bytes))=some (some (.string ⟨#[]⟩),1,16):=by kernel_rfl
abbrev Pow (w:World):Prop:=Lib.TabIs Tryz.prog w "internal/strconv.uint64pow10" .u64 Lib.pow10Tab
theorem Pow.stays {w w':World} (h:Pow w) (hb:Below w.heap.size w w'):Pow w':=Go.Joins.tab_stays (B:=w.heap.size) (g:=2) (by kernel_rfl) h hb (Nat.le_refl _)
def idB (o:OpV):ByteArray:=⟨(Lib.itoa o.id).toArray⟩
def zGg (ops:List OpV):List Value:=ops.map (fun o=>.string (idB o))
theorem zvv (ops:List OpV) (j:Nat) (h:j < ops.length):zGg (ops.take (j+1))=zGg (ops.take j)++[.string (idB ops[j])]:=by
 unfold zGg
 rw [List.take_succ_eq_append_getElem h,List.map_append]
 rfl
def idsT (ops:List OpV):List UInt8:=Lib.join (ops.map (fun o=>Lib.itoa o.id)) [44]
theorem zeF (W:World) (base:Nat) (a:Option Addr) (n c:Nat) (xs:List Value) (s:ByteArray) (h:W.ownsRow base 9 1 (.slice a n c) n xs) (hn:n≤1000) (hb:base≤W.heap.size):
 ∃ a' c' w',(Builtin.append_ #[67,67] 67 #[.slice a n c,.slice (some ⟨W.heap.size,0,none⟩) 1 1]).run Tryz.prog (W.alloc (.cells #[.string s] 9))=.ok (.slice a' (n+1) c') w'∧w'.ownsRow base 9 1 (.slice a' (n+1) c') (n+1) (xs++[.string s])∧Below base W w':=by
 obtain ⟨i0,hi0',hz0,hz1,hz2⟩:=info_parts strInfo
 obtain ⟨v7,w7,h1,h2,h3,_⟩:=run_append_own (P:=Tryz.prog) (W.alloc (.cells [Value.string s].toArray 9)) base 67 67 9 i0 _ 1 16 Tryz.underlying67 hi0' hz0 hz1 hz2 rfl (by decide) (.slice a n c) n xs (h.alloc _) ⟨W.heap.size,0,none⟩ 1 1 [.string s] rfl (z9R W _ _) (by intro u hu;simp at hu;subst hu;rfl) (by unfold maxLen;omega) (by omega) (by simp;omega)
 obtain ⟨a',c',rfl⟩:=zIW h2
 have hrow:∀ g,(Value.slice a n c).ownBlock=some g→base≤g:=zYv h
 have hk:Kept (Value.slice a n c).ownBlock.toList W w7:=((Kept.refl _ W).alloc _).grownS h3 (fun g' hg'=>by rw [hg'];simp)
 exact ⟨a',c',w7,h1,h2,hk.below hb (fun g hg=>hrow g (by simpa using hg))⟩
theorem zZ4 (l:List OpV) (hid:∀ o∈l,-9223372036854775808≤o.id∧o.id≤9223372036854775807):Lib.lens (l.map (fun o=>Lib.itoa o.id))≤21*l.length:=by
 induction l with
 | nil=>simp [Lib.lens]
 | cons o r ih=>
   have h1:=ih (fun x hx=>hid x (List.mem_cons_of_mem _ hx))
   have h2:=Lib.itoa_length_le o.id (hid o (by simp)).1 (hid o (by simp)).2
   simp only [List.map_cons,Lib.lens,List.length_cons,List.sum_cons] at*
   omega
theorem zYp (a:Option Addr) (c:Nat) (ops:List OpV) (w:World) (base:Nat) (hown:w.ownsRow base 9 1 (.slice a ops.length c) ops.length (zGg ops)) (hl:ops.length≤128) (hid:∀ o∈ops,-9223372036854775808≤o.id∧o.id≤9223372036854775807):
 Calls Tryz.prog 86 #[.slice a ops.length c,.string ⟨#[44]⟩] w fun e w'=>e=.returned (.string ⟨(idsT ops).toArray⟩)∧Below w.heap.size w w':=by
 cases ops with
 | nil=>
   refine (Tryz.strings_Join_none a c ⟨#[44]⟩ w).mono ?_
   rintro e w' ⟨rfl,rfl⟩
   exact ⟨rfl,Below.refl _ _⟩
 | cons o r=>
   rcases hown.2 with ⟨h1,h2⟩ | ⟨g,cap,cur,hv,hbg,hg,hcap,_⟩
   · simp at h2
   · injection hv with hv1 hv2 hv3
     subst hv1
     subst hv3
     have hc:=hown.cells (g:=g) rfl
     have hlen:((o::r).map idB).length=(o::r).length:=by simp
     have hm:((o::r).map idB).map (·.data.toList)=(o::r).map (fun o=>Lib.itoa o.id):=by simp [idB]
     have hJ:=Tryz.strings_Join g 0 c ((o::r).map idB) ⟨#[44]⟩ w (by
      intro j x hx
      have:=hc j (.string x) (by unfold zGg;rw [List.getElem?_map] at hx ⊢;cases e:(o::r)[j]? with | none=>rw [e] at hx;simp at hx | some y=>rw [e] at hx;simp at hx;simp [hx])
      rw [Addr.add_lit] at this
      exact this) (zBq hg) (by rw [hlen];omega) (by rw [hlen];exact hcap) (by
      rw [hm,List.map_cons,Lib.join_length]
      have:=zZ4 (o::r) hid
      simp only [List.map_cons,List.length_cons,List.length_map] at*
      show 1*r.length+_≤_
      omega)
     rw [hlen,hm] at hJ
     exact hJ
theorem ids_any (oa:Option Addr) (cap:Nat) (ops:List OpV) (w:World) (hr:OAt w oa ops) (hl:ops.length≤128) (hid:∀ o∈ops,-9223372036854775808≤o.id∧o.id≤9223372036854775807) (hp:Pow w):
 Calls Tryz.prog 45 #[.slice oa ops.length cap] w fun e w'=>e=.returned (.string ⟨(idsT ops).toArray⟩)∧Below w.heap.size w w':=by
 go_enter Tryz.func45,Tryz.ntmps45
 go_wp2_with fail
 go_loopw [3,8] (fun s i wr=>∃ (j:Nat) (a:Option Addr) (c:Nat),s=.slice a j c∧i=.int .i64 (j:Int)∧j≤ops.length∧wr.ownsRow w.heap.size 9 1 (.slice a j c) j (zGg (ops.take j))∧Below w.heap.size w wr) (fun _ i _=>ops.length - (intOf i).toNat)
 case atStart=>exact ⟨0,none,0,rfl,rfl,by omega,World.ownsRow_nil _ _ _ _,Below.refl _ _⟩
 case round=>
  obtain ⟨j,a,c,rfl,rfl,hj,hown,hbl⟩:=hrel
  by_cases hin:j < ops.length
  · have hin':(j:Int) < (ops.length:Int):=by omega
    have hne:ops≠[]:=by intro h;rw [h] at hin;simp at hin
    obtain ⟨g,rfl,hg,hc⟩:=(hr.below hbl) hne
    have hcell:∀ c u,c < 10→(opvCells ops[j])[c]?=some u→wr.cell? ⟨g,j*10+c,none⟩=some u:=fun c u hcc hu=>hc _ _ ((zvc ops j hin c hcc).trans hu)
    have hT:=Hid.mk' (zvv ops j hin)
    have hio:=hid _ (List.getElem_mem hin)
    generalize ops[j]=o at*
    have q0:wr.cell? ⟨g,j*10,none⟩=some (.int .i64 o.id):=hcell 0 _ (by omega) rfl
    have q1:=hcell 1 _ (by omega) rfl
    have q2:=hcell 2 _ (by omega) rfl
    have q3:=hcell 3 _ (by omega) rfl
    have q4:=hcell 4 _ (by omega) rfl
    have q5:=hcell 5 _ (by omega) rfl
    have q6:=hcell 6 _ (by omega) rfl
    have q7:=hcell 7 _ (by omega) rfl
    have q8:=hcell 8 _ (by omega) rfl
    have q9:=hcell 9 _ (by omega) rfl
    obtain ⟨W0,hW0⟩:∃ W0,wr.alloc (.cells #[.int .i64 o.id,.int .i64 o.cl,.string ⟨o.name.toArray⟩,.string ⟨o.key.toArray⟩,.int .i64 o.arg,.int .i64 o.exp,.int .i64 o.call,.int .i64 o.ret,.int .i64 o.vk,.int .i64 o.vn] 74)=W0:=⟨_,rfl⟩
    have hb0:Below wr.heap.size wr W0:=by rw [←hW0];exact (Below.refl _ _).alloc (Nat.le_refl _) _
    have hOW:W0.heap[wr.heap.size]?=some (.cells #[.int .i64 o.id,.int .i64 o.cl,.string ⟨o.name.toArray⟩,.string ⟨o.key.toArray⟩,.int .i64 o.arg,.int .i64 o.exp,.int .i64 o.call,.int .i64 o.ret,.int .i64 o.vk,.int .i64 o.vn] 74 (0,0)):=by rw [←hW0];exact ziF _ _ _ rfl
    have r0:=zBk hOW 0
    have hown0:W0.ownsRow w.heap.size 9 1 (.slice a j c) j (zGg (ops.take j)):=by rw [←hW0];exact hown.alloc _
    have hbl0:=hbl.trans (hb0.mono hbl.size)
    have hF:=Tryz.strconv_FormatInt_10 o.id hio.1 hio.2 W0 (hp.stays hbl0)
    have hA:=fun W h=>zeF W w.heap.size a j c (zGg (ops.take j)) (idB o) h (by omega)
    have HX:=Hid.mk' (And.intro hown0 hbl0)
    clear hcell hc hown hown0 hbl hbl0 hb0 hOW
    go_wp2_with fail
    refine hF.mono ?_
    rintro e w2 ⟨rfl,k,os,hw2⟩
    have hb2:Below W0.heap.size W0 w2:=by rw [hw2];exact Lib.below_grow _ _ (Nat.le_refl _) _ _
    have hown2:=zzF HX.out.1 (Kept.of_below (S:=[]) hb2) (by simp)
    have hbl2:=HX.out.2.trans (hb2.mono HX.out.2.size)
    obtain ⟨a',c',w7,hap,hown7,hb7⟩:=hA w2 hown2 hbl2.size
    have HY:=Hid.mk' (And.intro hown7 (hbl2.trans hb7))
    clear hw2 hb2 hown2 hbl2 hown7 hb7 hA hF HX
    unfold idB at hap
    go_wp2_with (at_builtin;refine zOu rfl _ _ 67 rfl _ _ _ _ rfl rfl hap ?_)
    go_roundw
    case rel=>exact ⟨j+1,a',c',rfl,by go_num,by omega,by rw [hT.out];exact HY.out.1,HY.out.2⟩
    case measure=>simp [intOf];omega
  · have hin':¬ (j:Int) < (ops.length:Int):=by omega
    obtain rfl:j=ops.length:=by omega
    rw [List.take_length] at hown
    have hJ:Calls Tryz.prog 86 #[.slice a ops.length c,.string ⟨#[44]⟩] wr fun e w'=>e=.returned (.string ⟨(idsT ops).toArray⟩)∧Below wr.heap.size wr w':=zYp a c ops wr _ hown hl hid
    have HB:=Hid.mk' hbl
    clear hown hbl
    go_wp2_with fail
    refine hJ.mono ?_
    rintro e w2 ⟨rfl,hb2⟩
    go_wp2
    go_ret
    exact ⟨rfl,HB.out.trans (hb2.mono HB.out.size)⟩
theorem z88 (n:Int) (h0: -9223372036854775808≤n) (h1:n≤9223372036854775807) (w:World) (hp:Pow w):
 Calls Tryz.prog 237 #[.int .i64 n] w fun e w'=>e=.returned (.string ⟨(Lib.itoa n).toArray⟩)∧Below w.heap.size w w':=by
 have hF:=Tryz.strconv_FormatInt_10 n h0 h1 w hp
 go_enter Tryz.func237,Tryz.ntmps237
 go_wp2_with fail
 refine hF.mono ?_
 rintro e w2 ⟨rfl,k,os,hw2⟩
 have hb2:Below w.heap.size w w2:=by rw [hw2];exact Lib.below_grow _ _ (Nat.le_refl _) _ _
 clear hw2 hF
 go_wp2
 go_ret
 exact ⟨rfl,hb2⟩
def decP (s:List UInt8):Option Int:=
 match Lib.parseIntB 64 s with
 | .ok v=>if Lib.itoa v=s then some v else none
 | _=>none
theorem decP_ok {s:List UInt8} {v:Int} (h:Lib.parseIntB 64 s=.ok v):decP s=if Lib.itoa v=s then some v else none:=by unfold decP;rw [h]
theorem zgx {s:List UInt8} (h:∀ v,Lib.parseIntB 64 s≠.ok v):decP s=none:=by
 unfold decP
 cases e:Lib.parseIntB 64 s with
 | ok v=>exact absurd e (h v)
 | «syntax»=>rfl
 | range=>rfl
theorem zJf (s:List UInt8) (w:World) (hs:s.length≤100000000) (he:Errs w) (hp:Pow w):
 Calls Tryz.prog 238 #[.string ⟨s.toArray⟩] w fun e w'=>e=.returned (.tuple #[.int .i64 ((decP s).getD 0),.bool (decP s).isSome])∧Below w.heap.size w w':=by
 have hI:=zbw ⟨s.toArray⟩ w he (by show s.toArray.size≤_;simp;omega)
 obtain ⟨R,hR⟩:∃ R,Hid (decP s=R):=⟨_,rfl⟩
 rw [hR.out]
 go_enter Tryz.func238,Tryz.ntmps238
 go_wp2_with fail
 refine hI.mono ?_
 rintro e w2 ⟨x,ev,rfl,hb2,hc⟩
 clear hI
 rcases hc with ⟨rfl,hx⟩ | ⟨⟨N,rfl⟩,hx⟩
 · have hbd:=Lib.parseIntB_bounds hx
   have hd:=z88 x (by have:=hbd.1;omega) (by have:=hbd.2;omega) w2 (hp.stays hb2)
   have hE:=Hid.mk' (hR.out.symm.trans (decP_ok hx))
   clear hx hbd hR
   go_wp2_with fail
   refine hd.mono ?_
   rintro e w3 ⟨rfl,hb3⟩
   have hb:=hb2.trans (hb3.mono hb2.size)
   clear hd hb3
   cases hq:(Lib.itoa x == s) with
   | true=>
     have hE2:=Hid.mk' (hE.out.trans (if_pos (by simpa using hq)))
     clear hE
     go_wp2
     go_ret2
     exact ⟨by rw [hE2.out];rfl,hb⟩
   | false=>
     have hE2:=Hid.mk' (hE.out.trans (if_neg (by simpa using hq)))
     clear hE
     go_wp2
     go_ret2
     exact ⟨by rw [hE2.out];rfl,hb⟩
 · have hE:=Hid.mk' (hR.out.symm.trans (zgx hx))
   clear hx hR
   go_wp2_with fail
   go_ret2
   exact ⟨by rw [hE.out];rfl,hb2⟩
def quDo (st:List UInt8) (o:OpV):List UInt8×Int×Int:=
 if o.name=[101,110,113] then (if st=[] then (Lib.itoa o.arg,0,0) else (st++[44]++Lib.itoa o.arg,0,0))
 else if o.name=[100,101,113] then (if (decP (Lib.cut st [44]).1).isSome then ((Lib.cut st [44]).2.1,1,(decP (Lib.cut st [44]).1).getD 0) else (st,0,0)) else (st,0,0)
theorem zUU (tm:Array Value) (W:World) (b:Nat) (s v0 v1:Value) (h6:tm[6]?.getD undef=s) (h7:tm[7]?.getD undef=.pointer (some ⟨b,0,none⟩)) (hb:W.heap[b]?=some (.cells #[v0,v1] 72 (0,0))):
 (results Tryz.f235 tm).run Tryz.prog W=.ok (.tuple #[s,.agg #[v0,v1]]) W:=by
 have c0:W.cell? ⟨b,0,none⟩=some v0:=by rw [zBk hb];rfl
 have c1:W.cell? ⟨b,1,none⟩=some v1:=by rw [zBk hb];rfl
 simp [results,Tryz.results235,go_sem,h6,h7,c0,c1]
theorem ba3 (a c:List UInt8):(⟨a.toArray⟩:ByteArray)++⟨#[44]⟩++⟨c.toArray⟩=⟨(a++[44]++c).toArray⟩:=by
 apply ByteArray.ext
 simp
theorem zQ4 (t:List UInt8):(Lib.cut t [44]).1.length≤t.length:=by
 unfold Lib.cut
 split <;> simp
 omega
theorem zhS (st:List UInt8) (o:OpV) (w:World) (hst:st.length≤30000000) (ha: -9223372036854775808≤o.arg∧o.arg≤9223372036854775807) (hG:Glob w) (hp:Pow w):
 Calls Tryz.prog 235 #[.agg #[],.string ⟨st.toArray⟩,opAg o] w fun e w'=>e=.returned (.tuple #[.string ⟨(quDo st o).1.toArray⟩,vAg (quDo st o).2.1 (quDo st o).2.2])∧Below w.heap.size w w':=by
 obtain ⟨R,hR⟩:∃ R,Hid (quDo st o=R):=⟨_,rfl⟩
 rw [hR.out]
 unfold opAg vAg at*
 obtain ⟨W3,hW3,hbl,hOB,hVB⟩:∃ W3,((w.alloc (.cells #[] 62)).alloc (.cells #[.int .i64 o.id,.int .i64 o.cl,.string ⟨o.name.toArray⟩,.string ⟨o.key.toArray⟩,.int .i64 o.arg,.int .i64 o.exp,.int .i64 o.call,.int .i64 o.ret,.int .i64 o.vk,.int .i64 o.vn] 74)).alloc (.cells #[.int .i64 0,.int .i64 0] 72)=W3∧Below w.heap.size w W3∧W3.heap[w.heap.size+1]?=some (.cells #[.int .i64 o.id,.int .i64 o.cl,.string ⟨o.name.toArray⟩,.string ⟨o.key.toArray⟩,.int .i64 o.arg,.int .i64 o.exp,.int .i64 o.call,.int .i64 o.ret,.int .i64 o.vk,.int .i64 o.vn] 74 (0,0))∧W3.heap[w.heap.size+1+1]?=some (.cells #[.int .i64 0,.int .i64 0] 72 (0,0)):=by
  refine ⟨_,rfl,(((Below.refl _ _).alloc (Nat.le_refl _) _).alloc (by simp) _).alloc (by simp;omega) _,?_,ziF _ _ _ (by simp)⟩
  rw [zD1 _ _ _ (by simp)];exact ziF _ _ _ (by simp)
 have a2:W3.cell? ⟨w.heap.size+1,2,none⟩=some (.string ⟨o.name.toArray⟩):=zBk hOB 2
 have a4:W3.cell? ⟨w.heap.size+1,4,none⟩=some (.int .i64 o.arg):=zBk hOB 4
 have hsz:=hbl.size
 have e0:W3.cell? ⟨w.heap.size+1+1,0,none⟩=some (.int .i64 0):=zBk hVB 0
 have e1:W3.cell? ⟨w.heap.size+1+1,1,none⟩=some (.int .i64 0):=zBk hVB 1
 have z0:=zBn hVB 0
 have z1:=zBn hVB 1
 have hfin:∀ (W W':World) (x y v0 v1:Value),Below w.heap.size w W→W.heap[w.heap.size+1+1]?=some (.cells #[x,y] 72 (0,0))→W'=(W.setCell ⟨w.heap.size+1+1,0,none⟩ v0).setCell ⟨w.heap.size+1+1,1,none⟩ v1→Below w.heap.size w W'∧W'.heap[w.heap.size+1+1]?=some (.cells #[v0,v1] 72 (0,0)):=by
  intro W W' x y v0 v1 h1 h2 h3
  subst h3
  exact ⟨(h1.setCell (p:=⟨w.heap.size+1+1,0,none⟩) (by show w.heap.size≤w.heap.size+1+1;omega) _).setCell (p:=⟨w.heap.size+1+1,1,none⟩) (by show w.heap.size≤w.heap.size+1+1;omega) _,vset h2 _ _⟩
 have HF:=Hid.mk' hfin
 have H0:=Hid.mk' (And.intro hVB hbl)
 have hp3:=hp.stays hbl
 have hng:=hG.errs.lt
 have hG3:Glob W3:=hG.below (hbl.mono hng)
 clear hfin
 go_enter Tryz.func235,Tryz.ntmps235
 cases h1:(o.name == [101,110,113]) with
 | true=>
   have hd:=z88 o.arg ha.1 ha.2 W3 hp3
   have hil:=Lib.itoa_length_le o.arg ha.1 ha.2
   cases h2:(st == []) with
   | true=>
     have hE:Hid (R=(Lib.itoa o.arg,0,0)):=by rw [←hR.out];unfold quDo;rw [if_pos (by simpa using h1),if_pos (by simpa using h2)];exact rfl
     go_wp2_with fail
     refine hd.mono ?_
     rintro e w2 ⟨rfl,hb2⟩
     have hB2:=(hb2.block _ (zBq hVB)).trans hVB
     have hbl2:=hbl.trans (hb2.mono hsz)
     have c0:w2.cell? ⟨w.heap.size+1+1,0,none⟩=some (.int .i64 0):=zBk hB2 0
     have c1:w2.cell? ⟨w.heap.size+1+1,1,none⟩=some (.int .i64 0):=zBk hB2 1
     have f0:=zBn hB2 0
     have f1:=zBn hB2 1
     have HX:=Hid.mk' (And.intro hB2 hbl2)
     clear hb2 hB2 hbl2
     go_wp2
     obtain ⟨g1,g2⟩:=HF.out _ _ _ _ _ _ HX.out.2 HX.out.1 rfl
     refine bodyPost_ret (zUU _ _ (w.heap.size+1+1) (.string ⟨(Lib.itoa o.arg).toArray⟩) _ _ (by simp) (by simp) g2) rfl ⟨by first | (rw [hE.out];done) | (rw [hE.out];rfl),g1⟩
   | false=>
     have hE:Hid (R=(st++[44]++Lib.itoa o.arg,0,0)):=by rw [←hR.out];unfold quDo;rw [if_pos (by simpa using h1),if_neg (by simpa using h2)];exact rfl
     go_wp2_with fail
     refine hd.mono ?_
     rintro e w2 ⟨rfl,hb2⟩
     have hB2:=(hb2.block _ (zBq hVB)).trans hVB
     have hbl2:=hbl.trans (hb2.mono hsz)
     have c0:w2.cell? ⟨w.heap.size+1+1,0,none⟩=some (.int .i64 0):=zBk hB2 0
     have c1:w2.cell? ⟨w.heap.size+1+1,1,none⟩=some (.int .i64 0):=zBk hB2 1
     have f0:=zBn hB2 0
     have f1:=zBn hB2 1
     have HX:=Hid.mk' (And.intro hB2 hbl2)
     clear hb2 hB2 hbl2
     go_wp2
     obtain ⟨g1,g2⟩:=HF.out _ _ _ _ _ _ HX.out.2 HX.out.1 rfl
     refine bodyPost_ret (zUU _ _ (w.heap.size+1+1) (.string (⟨st.toArray⟩++⟨#[44]⟩++⟨(Lib.itoa o.arg).toArray⟩)) _ _ (by simp) (by simp) g2) rfl ⟨by rw [hE.out,ba3],g1⟩
 | false=>
   cases h2:(o.name == [100,101,113]) with
   | false=>
     have hE:Hid (R=(st,0,0)):=by rw [←hR.out];unfold quDo;rw [if_neg (by simpa using h1),if_neg (by simpa using h2)];exact rfl
     clear hR
     go_wp2
     obtain ⟨g1,g2⟩:=HF.out _ _ _ _ _ _ H0.out.2 H0.out.1 rfl
     refine bodyPost_ret (zUU _ _ (w.heap.size+1+1) (.string ⟨st.toArray⟩) _ _ (by simp) (by simp) g2) rfl ⟨by first | (rw [hE.out];done) | (rw [hE.out];rfl),g1⟩
   | true=>
     obtain ⟨mx,hmx⟩:=hG3.mx
     have hC:=Tryz.strings_Cut ⟨st.toArray⟩ ⟨#[44]⟩ mx W3 (by show st.toArray.size < _;simp;omega) hmx
     have hlen:=zQ4 st
     go_wp2_with fail
     refine hC.mono ?_
     rintro e w2 ⟨rfl,n,hw2⟩
     have hb2:Below W3.heap.size W3 w2:=by rw [hw2];exact below_drewN (Below.refl _ _) _
     clear hw2 hC
     have hPD:=zJf (Lib.cut st [44]).1 w2 (by omega) (hG3.errs.below (hb2.mono hG3.errs.lt)) (hp3.stays hb2)
     have hE0:Hid (R=if (decP (Lib.cut st [44]).1).isSome then ((Lib.cut st [44]).2.1,1,(decP (Lib.cut st [44]).1).getD 0) else (st,0,0)):=by rw [←hR.out];unfold quDo;rw [if_neg (by simpa using h1),if_pos (by simpa using h2)];exact rfl
     generalize (Lib.cut st [44]).1=fst at*
     generalize (Lib.cut st [44]).2.1=rst at*
     generalize (Lib.cut st [44]).2.2=third at*
     go_wp2_with fail
     refine hPD.mono ?_
     rintro e w4 ⟨rfl,hb4⟩
     have hb24:Below W3.heap.size W3 w4:=hb2.trans (hb4.mono hb2.size)
     clear hPD hb4
     cases h3:(decP fst).isSome with
     | true=>
       have hE:Hid (R=(rst,1,(decP fst).getD 0)):=by rw [hE0.out,if_pos h3];exact rfl
       clear hE0 h3 hR
       generalize (decP fst).getD 0=nv at*
       have hN:=zl7 nv w4
       unfold vAg at hN
       go_wp2_with fail
       refine hN.mono ?_
       rintro e w5 ⟨rfl,hb5⟩
       have hb2:Below W3.heap.size W3 w5:=hb24.trans (hb5.mono hb24.size)
       have hB2:=(hb2.block _ (zBq hVB)).trans hVB
       have hbl2:=hbl.trans (hb2.mono hsz)
       have c0:w5.cell? ⟨w.heap.size+1+1,0,none⟩=some (.int .i64 0):=zBk hB2 0
       have c1:w5.cell? ⟨w.heap.size+1+1,1,none⟩=some (.int .i64 0):=zBk hB2 1
       have f0:=zBn hB2 0
       have f1:=zBn hB2 1
       have HX:=Hid.mk' (And.intro hB2 hbl2)
       clear hb2 hB2 hbl2 hb24 hb5 hN
       go_wp2
       obtain ⟨g1,g2⟩:=HF.out _ _ _ _ _ _ HX.out.2 HX.out.1 rfl
       refine bodyPost_ret (zUU _ _ (w.heap.size+1+1) (.string ⟨rst.toArray⟩) _ _ (by simp) (by simp) g2) rfl ⟨by first | (rw [hE.out];done) | (rw [hE.out];rfl),g1⟩
     | false=>
       have hE:Hid (R=(st,0,0)):=by rw [hE0.out,if_neg (by simp [h3])];exact rfl
       have hB2:=(hb24.block _ (zBq hVB)).trans hVB
       have hbl2:=hbl.trans (hb24.mono hsz)
       have c0:w4.cell? ⟨w.heap.size+1+1,0,none⟩=some (.int .i64 0):=zBk hB2 0
       have c1:w4.cell? ⟨w.heap.size+1+1,1,none⟩=some (.int .i64 0):=zBk hB2 1
       have f0:=zBn hB2 0
       have f1:=zBn hB2 1
       have HX:=Hid.mk' (And.intro hB2 hbl2)
       clear hE0 hR hB2 hbl2 hb24
       go_wp2
       obtain ⟨g1,g2⟩:=HF.out _ _ _ _ _ _ HX.out.2 HX.out.1 rfl
       refine bodyPost_ret (zUU _ _ (w.heap.size+1+1) (.string ⟨st.toArray⟩) _ _ (by simp) (by simp) g2) rfl ⟨by first | (rw [hE.out];done) | (rw [hE.out];rfl),g1⟩
end Go.Proofs.YtbbkihekjdffpaaGreatDoor.srch
