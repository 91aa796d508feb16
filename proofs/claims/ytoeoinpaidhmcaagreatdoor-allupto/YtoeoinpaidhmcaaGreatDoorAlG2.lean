/- One text. -/
import Derived.Test.YtoeoinpaidhmcaaGreatDoorAlG
namespace Go.Proofs.YtoeoinpaidhmcaaGreatDoor.jd
open Tryz
open Go.RowKit
open srch (decP vAg opAg Pow)
set_option maxHeartbeats 4000000 in
set_option maxRecDepth 100000 in
theorem zWW (y:Bool) (s t:List UInt8) (o:OpV) (k n:Int) (g:Bool) (p r:Bool×Int) (w:World)
 (Z:∀W,Below w.heap.size w W→Calls prog (if y then 251 else 268) #[.agg #[],.string ⟨s.toArray⟩] W fun e w'=>e=.returned (.tuple #[phV p,.bool g])∧Below W.heap.size W w')
 (U:g=true→∀W,Below w.heap.size w W→Calls prog (if y then 250 else 267) #[.agg #[],phV p,opAg o] W fun e w'=>e=.returned (.tuple #[phV r,vAg k n])∧Below W.heap.size W w')
 (hT:g=true→∀W,Below w.heap.size w W→Calls prog (if y then 252 else 269) #[.agg #[],phV r] W fun e w'=>e=.returned (.string ⟨t.toArray⟩)∧Below W.heap.size W w'):
 Calls prog (if y then 56 else 59) #[.agg #[],.string ⟨s.toArray⟩,opAg o] w fun e w'=>e=.returned (.tuple #[.string ⟨(if g=true then t else []).toArray⟩,vAg (if g=true then k else 0) (if g=true then n else 0),.bool g])∧Below w.heap.size w w':=by
 have Y:∀q,∃z,z=((w.alloc (.cells #[] q)).alloc (.cells (opB o) 27)).alloc (.cells #[.int .i64 0,.int .i64 0] 25)∧Below w.heap.size w z∧z.heap[w.heap.size]?=some (.cells #[] q (0,0))∧z.heap[w.heap.size+1]?=some (.cells (opB o) 27 (0,0))∧z.heap[w.heap.size+1+1]?=some (.cells #[.int .i64 0,.int .i64 0] 25 (0,0)):=fun q=>
  ⟨_,rfl,((zA _ _).alloc (by simp) _).alloc (by simp;omega) _,by rw[zD1 _ _ _ (by simp;omega),zD1 _ _ _ (by simp)];exact ziF _ _ _ rfl,by rw[zD1 _ _ _ (by simp)];exact ziF _ _ _ (by simp),ziF _ _ _ (by simp)⟩
 have X:Hid _:=Z;have V:Hid _:=U;have TH:Hid _:=hT;clear Z U hT;cases y
 all_goals
  unfold vAg opAg phV at*
  first|go_enter func56,ntmps56|go_enter func59,ntmps59
  go_wp2_with fail;obtain⟨z,N,A,S,K,J⟩:=Y _;rw[←N];clear N Y;refine(X.out z A).mono ?_;rintro e C ⟨rfl,d⟩;obtain⟨x,Q,R,H⟩:∃x,x=C.alloc (.cells #[.bool p.1,.int .i64 p.2] 132)∧Below C.heap.size C x∧x.heap[C.heap.size]?=some (.cells #[.bool p.1,.int .i64 p.2] 132 (0,0)):=⟨_,rfl,zA _ _,ziF _ _ _ rfl⟩;replace d:=d.trans (R.mono d.size);have i:=(d.block _ (zBq J)).trans J;have M:=(d.block _ (zBq K)).trans K;have j:=A.trans (d.mono A.size);have O:=zBq i;clear d J K A R;go_upto_region 2 with fail;rw[←Q];clear Q;cases g with
  |false=>
    obtain⟨v0,v1,z0,z1⟩:=zWr i;go_wp2_with fail;refine bodyPost_ret (zwZ (by kernel_rfl) _ _ (w.heap.size+1+1) (.string ⟨#[]⟩) (.int .i64 0) (.int .i64 0) (.bool false) rfl rfl rfl (by first|exact i|exact srch.vset i _ _)) rfl ?_;exact⟨rfl,by first|exact j|exact below2 j (Nat.le_add_right _ 2) _ _⟩
  |true=>
    obtain⟨a0,a1,a2,a3,a4,a5,a6,a7,a8,a9⟩:=zZN M;have s0:x.cell? ⟨C.heap.size,0,none⟩=some (.bool p.1):=zBk H 0;have s1:x.cell? ⟨C.heap.size,1,none⟩=some (.int .i64 p.2):=zBk H 1;go_wp2_with fail;refine(V.out (by trivial) x j).mono ?_;rintro e a ⟨rfl,G⟩;have B:=(G.block _ O).trans i;have v:=j.trans (G.mono j.size);clear a0 a1 a2 a3 a4 a5 a6 a7 a8 a9 s0 s1 G i M j H;go_wp2_with fail;obtain⟨b,P,L,D,u⟩:∃b,b=(a.alloc (.cells #[.bool r.1,.int .i64 r.2] 132)).alloc (.cells #[.int .i64 k,.int .i64 n] 25)∧Below a.heap.size a b∧b.heap[a.heap.size]?=some (.cells #[.bool r.1,.int .i64 r.2] 132 (0,0))∧b.heap[a.heap.size+1]?=some (.cells #[.int .i64 k,.int .i64 n] 25 (0,0)):=⟨_,rfl,(zA _ _).alloc (by simp) _,by rw[zD1 _ _ _ (by simp)];exact ziF _ _ _ rfl,ziF _ _ _ (by simp)⟩;have n0:b.cell? ⟨a.heap.size,0,none⟩=some (.bool r.1):=zBk D 0;have n1:b.cell? ⟨a.heap.size,1,none⟩=some (.int .i64 r.2):=zBk D 1;rw[←P];have I:=(L.block _ (zBq B)).trans B;have l:=v.trans (L.mono v.size);have ae:a.heap.size+1≠w.heap.size+1+1:=(by have:=zBq B;omega);have E:(fun w'=>w'.cell? ⟨a.heap.size+1,0,none⟩=some (.int .i64 k)∧w'.cell? ⟨a.heap.size+1,1,none⟩=some (.int .i64 n)) b:=⟨zBk u 0,zBk u 1⟩;have ab:=TH.out (by trivial) b.drew l.drew;have aa:Hid (∀m,Below b.heap.size b m→(m.cell? ⟨a.heap.size+1,0,none⟩=some (.int .i64 k)∧m.cell? ⟨a.heap.size+1,1,none⟩=some (.int .i64 n))∧m.heap[w.heap.size+1+1]?=some (.cells #[.int .i64 0,.int .i64 0] 25 (0,0))∧Below w.heap.size w m):=fun m h=>⟨⟨(h.cell (p:=⟨a.heap.size+1,0,none⟩) (zBq u)).trans E.1,(h.cell (p:=⟨a.heap.size+1,1,none⟩) (zBq u)).trans E.2⟩,(h.block _ (zBq I)).trans I,l.trans (h.mono l.size)⟩;obtain⟨q0,q1⟩:=E;clear X V TH P L u D I l v B O S;go_region_with ((first|go_at_call 252|go_at_call 269);refine ab.mono ?_;rintro e m ⟨rfl,ad⟩;have F:=aa.out m (Below.trans (Below.drew (zD)) ad);have q2:=F.1.1;have q3:=F.1.2;have H4:Hid _:=F.2;obtain⟨v0,v1,z0,z1⟩:=zWr F.2.1;clear F)
    all_goals
     go_wp2_with fail;refine bodyPost_ret (zwZ (by kernel_rfl) _ _ (w.heap.size+1+1) (.string ⟨t.toArray⟩) (.int .i64 k) (.int .i64 n) (.bool true) rfl rfl rfl (srch.vset H4.out.1 _ _)) rfl ?_;exact⟨rfl,below2 H4.out.2 (Nat.le_add_right _ 2) _ _⟩
end Go.Proofs.YtoeoinpaidhmcaaGreatDoor.jd
