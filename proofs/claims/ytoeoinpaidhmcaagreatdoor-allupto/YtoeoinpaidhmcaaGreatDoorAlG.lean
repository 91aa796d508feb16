/- One text. -/
import Derived.Test.YtoeoinpaidhmcaaGreatDoorAlE
namespace Go.Proofs.YtoeoinpaidhmcaaGreatDoor.jd
open Tryz
open Go.RowKit
open srch (decP vAg opAg M3 gG Pow)
@[reducible] def aG (y:M3):FuncId:=match y with | .i=>55 | .b=>58 | .q=>57
@[reducible] def pG (y:M3):FuncId:=match y with | .i=>243 | .b=>265 | .q=>255
@[reducible] def xG (y:M3):FuncId:=match y with | .i=>244 | .b=>266 | .q=>256
set_option maxHeartbeats 4000000 in
set_option maxRecDepth 100000 in
theorem zjV (y:M3) (s t:List UInt8) (o:OpV) (k n:Int) (g:Bool) (N L:Value) (w:World)
 (S:∀W,Below w.heap.size w W→Calls prog (pG y) #[.agg #[],.string ⟨s.toArray⟩] W fun e w'=>e=.returned (.tuple #[N,.bool g])∧Below W.heap.size W w')
 (O:g=true→∀W,Below w.heap.size w W→Calls prog (gG y) #[.agg #[],N,opAg o] W fun e w'=>e=.returned (.tuple #[L,vAg k n])∧Below W.heap.size W w')
 (Y:g=true→∀W,Below w.heap.size w W→Calls prog (xG y) #[.agg #[],L] W fun e w'=>e=.returned (.string ⟨t.toArray⟩)∧Below W.heap.size W w'):
 Calls prog (aG y) #[.agg #[],.string ⟨s.toArray⟩,opAg o] w fun e w'=>e=.returned (.tuple #[.string ⟨(if g=true then t else []).toArray⟩,vAg (if g=true then k else 0) (if g=true then n else 0),.bool g])∧Below w.heap.size w w':=by
 have R:∀q,∃u,u=((w.alloc (.cells #[] q)).alloc (.cells (opB o) 27)).alloc (.cells #[.int .i64 0,.int .i64 0] 25)∧Below w.heap.size w u∧u.heap[w.heap.size]?=some (.cells #[] q (0,0))∧u.heap[w.heap.size+1]?=some (.cells (opB o) 27 (0,0))∧u.heap[w.heap.size+1+1]?=some (.cells #[.int .i64 0,.int .i64 0] 25 (0,0)):=fun q=>
  ⟨_,rfl,((zA _ _).alloc (by simp) _).alloc (by simp;omega) _,by rw[zD1 _ _ _ (by simp;omega),zD1 _ _ _ (by simp)];exact ziF _ _ _ rfl,by rw[zD1 _ _ _ (by simp)];exact ziF _ _ _ (by simp),ziF _ _ _ (by simp)⟩
 have Q:Hid _:=S;have P:Hid _:=O;have Z:Hid _:=Y;clear S O Y;cases y
 all_goals
  unfold vAg opAg at*
  first|go_enter func55,ntmps55|go_enter func58,ntmps58|go_enter func57,ntmps57
  go_wp2_with fail;obtain⟨u,I,v,M,F,E⟩:=R _;rw[←I];clear I R;refine(Q.out u v).mono ?_;rintro e w1 ⟨rfl,z⟩;have b:=(z.block _ (zBq E)).trans E;have H:=(z.block _ (zBq F)).trans F;have d:=v.trans (z.mono v.size);have J:=zBq b;clear z E F v;cases g with
  |false=>
    obtain⟨v0,v1,z0,z1⟩:=zWr b;go_wp2_with fail;refine bodyPost_ret (zwZ (by kernel_rfl) _ _ (w.heap.size+1+1) (.string ⟨#[]⟩) (.int .i64 0) (.int .i64 0) (.bool false) rfl rfl rfl (by first|exact b|exact srch.vset b _ _)) rfl ?_;exact⟨rfl,by first|exact d|exact below2 d (Nat.le_add_right _ 2) _ _⟩
  |true=>
    obtain⟨a0,a1,a2,a3,a4,a5,a6,a7,a8,a9⟩:=zZN H;go_wp2_with fail;refine(P.out (by trivial) w1 d).mono ?_;rintro e a ⟨rfl,C⟩;have x:=(C.block _ J).trans b;have r:=d.trans (C.mono d.size);clear a0 a1 a2 a3 a4 a5 a6 a7 a8 a9 C b H d;go_wp2_with fail;obtain⟨m,K,G,l⟩:∃m,m=a.alloc (.cells #[.int .i64 k,.int .i64 n] 25)∧Below a.heap.size a m∧m.heap[a.heap.size]?=some (.cells #[.int .i64 k,.int .i64 n] 25 (0,0)):=⟨_,rfl,zA _ _,ziF _ _ _ rfl⟩;rw[←K];have D:=(G.block _ (zBq x)).trans x;have i:=r.trans (G.mono r.size);have ab:a.heap.size≠w.heap.size+1+1:=(by have:=zBq x;omega);have A:(fun w'=>w'.cell? ⟨a.heap.size,0,none⟩=some (.int .i64 k)∧w'.cell? ⟨a.heap.size,1,none⟩=some (.int .i64 n)) m:=⟨zBk l 0,zBk l 1⟩;have V:=Z.out (by trivial) m.drew i.drew;have U:Hid (∀j,Below m.heap.size m j→(j.cell? ⟨a.heap.size,0,none⟩=some (.int .i64 k)∧j.cell? ⟨a.heap.size,1,none⟩=some (.int .i64 n))∧j.heap[w.heap.size+1+1]?=some (.cells #[.int .i64 0,.int .i64 0] 25 (0,0))∧Below w.heap.size w j):=fun j h=>⟨⟨(h.cell (p:=⟨a.heap.size,0,none⟩) (zBq l)).trans A.1,(h.cell (p:=⟨a.heap.size,1,none⟩) (zBq l)).trans A.2⟩,(h.block _ (zBq D)).trans D,i.trans (h.mono i.size)⟩;obtain⟨q0,q1⟩:=A;clear Q P Z K G l D i r x J M;go_region_with ((first|go_at_call 244|go_at_call 266|go_at_call 256);refine V.mono ?_;rintro e j ⟨rfl,aa⟩;have B:=U.out j (Below.trans (Below.drew (zD)) aa);have q2:=B.1.1;have q3:=B.1.2;have X:Hid _:=B.2;obtain⟨v0,v1,z0,z1⟩:=zWr B.2.1;clear B)
    all_goals
     go_wp2_with fail;refine bodyPost_ret (zwZ (by kernel_rfl) _ _ (w.heap.size+1+1) (.string ⟨t.toArray⟩) (.int .i64 k) (.int .i64 n) (.bool true) rfl rfl rfl (srch.vset X.out.1 _ _)) rfl ?_;exact⟨rfl,below2 X.out.2 (Nat.le_add_right _ 2) _ _⟩
end Go.Proofs.YtoeoinpaidhmcaaGreatDoor.jd
