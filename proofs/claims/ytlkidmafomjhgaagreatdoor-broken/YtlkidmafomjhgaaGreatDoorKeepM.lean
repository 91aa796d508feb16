/- One text. -/
import Derived.Test.YtlkidmafomjhgaaGreatDoorKeepXT
import Derived.Deep.LoopGhost
import Derived.Handy
import Derived.Laws.MakeOwn
namespace Go.Proofs.YtlkidmafomjhgaaGreatDoor.keep
open Go.RowKit

theorem zEN:(Tryz.prog.info? 46).map (fun i=>(i.zero,i.size,i.bytes))=some (some (.agg #[.int .i64 0,.int .i64 0]),2,16):=by kernel_rfl
theorem zeM (n:Nat) (hn:n≤1000) (w:World):(Instr.makeSlice 57 (.int .i64 ((n:Int)+1)) (.int .i64 ((n:Int)+1))).run Tryz.prog w=.ok (.slice (some ⟨w.heap.size,0,none⟩) (n+1) (n+1)) (w.alloc (.cells (madeCells #[.int .i64 0,.int .i64 0] ((n+1)*2)) 46)):=by
 obtain ⟨i0,hi0',hz0,hz1,hz2⟩:=info_parts zEN
 have h:=run_makeSlice (P:=Tryz.prog) w 57 46 i0 _ Tryz.underlying57 hi0' hz0 .i64 .i64 ((n:Int)+1) ((n:Int)+1) (by omega) (Int.le_refl _) (by rw [hz1];omega) (by rw [hz2];omega) (by omega)
 rw [hz1,show ((n:Int)+1).toNat=n+1 by omega] at h
 exact h
theorem zcd (n j:Nat) (h:j < n):(madeCells #[.int .i64 0,.int .i64 0] n)[j]?=some (.int .i64 0):=by
 have:j % 2=0∨j % 2=1:=by omega
 rcases this with e | e <;> simp [madeCells,h,e]
theorem ztN (w:World) (gb x y:Nat) (u v:Value):∀ p:Addr,p.block≠gb→((w.setCell ⟨gb,x,none⟩ u).setCell ⟨gb,y,none⟩ v).cell? p=w.cell? p:=fun p hp=>
 World.cell?_of_block (w:=w) (by rw [zRA hp,zRA hp])
def SC (tb cb g h j:Nat) (vo:Value) (o:OpV) (w':World):Prop:=w'.cell? ⟨tb,1,none⟩=some vo∧w'.cell? ⟨cb,h*3+1,none⟩=some (.int .i64 (j:Int))∧w'.cell? ⟨g,j*10,none⟩=some (.int .i64 o.id)∧w'.cell? ⟨g,j*10+1,none⟩=some (.int .i64 o.cl)∧w'.cell? ⟨g,j*10+2,none⟩=some (.string ⟨o.name.toArray⟩)∧w'.cell? ⟨g,j*10+3,none⟩=some (.string ⟨o.key.toArray⟩)∧w'.cell? ⟨g,j*10+4,none⟩=some (.int .i64 o.arg)∧w'.cell? ⟨g,j*10+5,none⟩=some (.int .i64 o.exp)∧w'.cell? ⟨g,j*10+6,none⟩=some (.int .i64 o.call)∧w'.cell? ⟨g,j*10+7,none⟩=some (.int .i64 o.ret)∧w'.cell? ⟨g,j*10+8,none⟩=some (.int .i64 o.vk)∧w'.cell? ⟨g,j*10+9,none⟩=some (.int .i64 o.vn)
theorem SC.tr {tb cb g h j:Nat} {vo:Value} {o:OpV} {w w':World} (s:SC tb cb g h j vo o w) (h1:w'.cell? ⟨tb,1,none⟩=w.cell? ⟨tb,1,none⟩) (h2:w'.heap[cb]?=w.heap[cb]?) (h3:w'.heap[g]?=w.heap[g]?):SC tb cb g h j vo o w':=by
 have e2:∀ x,w'.cell? ⟨cb,x,none⟩=w.cell? ⟨cb,x,none⟩:=fun x=>World.cell?_of_block (w:=w) h2
 have e3:∀ x,w'.cell? ⟨g,x,none⟩=w.cell? ⟨g,x,none⟩:=fun x=>World.cell?_of_block (w:=w) h3
 obtain ⟨a,b,c0,c1,c2,c3,c4,c5,c6,c7,c8,c9⟩:=s
 exact ⟨h1.trans a,(e2 _).trans b,(e3 _).trans c0,(e3 _).trans c1,(e3 _).trans c2,(e3 _).trans c3,(e3 _).trans c4,(e3 _).trans c5,(e3 _).trans c6,(e3 _).trans c7,(e3 _).trans c8,(e3 _).trans c9⟩
theorem SC.bl {tb cb g h j:Nat} {vo:Value} {o:OpV} {w w':World} (s:SC tb cb g h j vo o w) (h1:w'.heap[tb]?=w.heap[tb]?) (h2:w'.heap[cb]?=w.heap[cb]?) (h3:w'.heap[g]?=w.heap[g]?):SC tb cb g h j vo o w':=
 s.tr (World.cell?_of_block (w:=w) h1) h2 h3
theorem zM5 (tm:Array Value) (W:World) (b:Nat) (v0 v1 v2 v3:Value) (h7:tm[8]?.getD undef=.pointer (some ⟨b,0,none⟩)) (hb:W.heap[b]?=some (.cells #[v0,v1,v2,v3] 26 (0,0))):
 (results Tryz.f7 tm).run Tryz.prog W=.ok (.agg #[v0,v1,v2,v3]) W:=by
 have c0:W.cell? ⟨b,0,none⟩=some v0:=by rw [zBk hb];rfl
 have c1:W.cell? ⟨b,1,none⟩=some v1:=by rw [zBk hb];rfl
 have c2:W.cell? ⟨b,2,none⟩=some v2:=by rw [zBk hb];rfl
 have c3:W.cell? ⟨b,3,none⟩=some v3:=by rw [zBk hb];rfl
 simp [results,Tryz.results7,go_sem,h7,c0,c1,c2,c3]
end Go.Proofs.YtlkidmafomjhgaaGreatDoor.keep
