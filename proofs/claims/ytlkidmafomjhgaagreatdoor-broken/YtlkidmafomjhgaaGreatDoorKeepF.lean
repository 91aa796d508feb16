/- One text. -/
import Derived.Test.YtlkidmafomjhgaaGreatDoorKeepV
namespace Go.Proofs.YtlkidmafomjhgaaGreatDoor.keep
open Go.RowKit

def opA (id cl:Int) (name key:List UInt8) (arg exp call ret vk vn:Int):Value:=.agg #[.int .i64 id,.int .i64 cl,.string ⟨name.toArray⟩,.string ⟨key.toArray⟩,.int .i64 arg,.int .i64 exp,.int .i64 call,.int .i64 ret,.int .i64 vk,.int .i64 vn]
theorem zh0 {S R:List Nat} {a b c:World} (h:Kept S a b) (k:Kept R b c) (hR:∀ x∈R,x∈S∨a.heap.size≤x):Kept S a c:=
 ⟨k.os.trans h.os,k.tape.trans h.tape,k.output.trans h.output,Nat.le_trans h.size k.size,fun i hi hn=>(k.block i (Nat.lt_of_lt_of_le hi h.size) (fun hm=>(hR i hm).elim hn (fun h=>by omega))).trans (h.block i hi hn)⟩
theorem zu9 (tm:Array Value) (W:World) (b:Nat) (k n:Int) (h7:tm[4]?.getD undef=.pointer (some ⟨b,0,none⟩)) (hb:vBlk W b k n):
 (results Tryz.f26 tm).run Tryz.prog W=.ok (.agg #[.int .i64 k,.int .i64 n]) W:=by
 have c0:W.cell? ⟨b,0,none⟩=some (.int .i64 k):=by rw [zBk hb];rfl
 have c1:W.cell? ⟨b,1,none⟩=some (.int .i64 n):=by rw [zBk hb];rfl
 simp [results,Tryz.results26,go_sem,h7,c0,c1]
theorem zQK {wc:Array Value} {o:Nat} {v:Value} (h:wc[o]?=some v):wc.setIfInBounds o v=wc:=by
 apply Array.ext_getElem?
 intro i
 rw [Array.getElem?_setIfInBounds]
 split
 · rename_i hi
   subst hi
   have:=(Array.getElem?_eq_some_iff.1 h).1
   simp only [this,if_true]
   exact h.symm
 · rfl
end Go.Proofs.YtlkidmafomjhgaaGreatDoor.keep
