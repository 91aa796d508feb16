/- Several texts in one. -/
import Derived.Test.YtlkidmafomjhgaaGreatDoorPureX
import Derived.Deep.RegionHeld
import Derived.Deep.Upon
set_option maxHeartbeats 4000000
set_option maxRecDepth 100000
namespace Go.Proofs.YtlkidmafomjhgaaGreatDoor.keep
open Go.RowKit

theorem z6Xb {n:Int} (h0: -9223372036854775808≤n) (h1:n≤9223372036854775807):IntKind.i64.wrap n=n:=by rw [IntKind.wrap_i64];omega
def pickP (c:Int) (n:Nat):Nat:=((if c < 0 then -(c+1) else c) % (n:Int)).toNat
theorem zdA (c:Int) {n:Nat} (h:0 < n):pickP c n < n:=by
 unfold pickP
 have h1:=Int.emod_nonneg (if c < 0 then -(c+1) else c) (show (n:Int)≠0 by omega)
 have h2:=Int.emod_lt_of_pos (if c < 0 then -(c+1) else c) (show (0:Int) < (n:Int) by omega)
 omega
theorem zlN (c:Int) {n:Nat} (h:0 < n):((pickP c n:Nat):Int)=(if c < 0 then -(c+1) else c) % (n:Int):=by
 unfold pickP
 have h1:=Int.emod_nonneg (if c < 0 then -(c+1) else c) (show (n:Int)≠0 by omega)
 omega
theorem z5u (c:Int) (n:Nat) (w:World) (h0: -9223372036854775808≤c) (h1:c≤9223372036854775807) (hn:0 < n):
 Calls Tryz.prog 15 #[.int .i64 c,.int .i64 (n:Int)] w fun e w'=>e=.returned (.int .i64 (pickP c n:Int))∧w'=w:=by
 have hp:=zlN c hn
 have hlt:=zdA c hn
 have hne:((n:Int) == 0)=false:=by simp;omega
 generalize pickP c n=p at*
 by_cases hc:c < 0
 · rw [if_pos hc] at hp
   have hw1:IntKind.i64.wrap (c+1)=c+1:=z6Xb (by omega) (by omega)
   have hw2:IntKind.i64.wrap (-(c+1))= -(c+1):=z6Xb (by omega) (by omega)
   have hr:Int.tmod (-(c+1)) (n:Int)=(p:Int):=by rw [Int.tmod_eq_emod_of_nonneg (by omega)];exact hp.symm
   clear hp
   go_enter Tryz.func15,Tryz.ntmps15
   go_wp2
   go_ret
   exact ⟨rfl,rfl⟩
 · rw [if_neg hc] at hp
   have hr:Int.tmod c (n:Int)=(p:Int):=by rw [Int.tmod_eq_emod_of_nonneg (by omega)];exact hp.symm
   clear hp
   go_enter Tryz.func15,Tryz.ntmps15
   go_wp2
   go_ret
   exact ⟨rfl,rfl⟩

def z1S (n:Nat):List Int→Nat×List Int
 | []=>(0,[])
 | c::r=>(pickP c n,r)
theorem zKB {n:Nat} (h:0 < n) (d:List Int):(z1S n d).1 < n:=by
 cases d with
 | nil=>exact h
 | cons c r=>exact zdA c h
def zRK (x:Int):Prop:= -9223372036854775808≤x∧x≤9223372036854775807
structure Dice (w:World) (b:Nat) (sv:Value) (code d:List Int):Prop where
 blk:∃ k:Nat,k≤code.length∧d=code.drop k∧w.heap[b]?=some (.cells #[sv,.int .i64 (k:Int)] 35 (0,0))
 row:∃ oa cap,sv=.slice oa code.length cap∧(code≠[]→∃ g off,oa=some ⟨g,off,none⟩∧g < b∧∀ j x,code[j]?=some x→w.cell? ⟨g,off+j,none⟩=some (.int .i64 x))
 len:code.length≤9223372036854775807
 wf:∀ x∈code,zRK x
theorem Dice.lt {w:World} {b:Nat} {sv:Value} {code d:List Int} (h:Dice w b sv code d):b < w.heap.size:=by obtain ⟨k,_,_,hb⟩:=h.blk;exact zCqB hb
theorem Dice.kept {w w':World} {b:Nat} {sv:Value} {code d:List Int} {S:List Nat} (h:Dice w b sv code d) (k:Kept S w w') (hS:∀ x∈S,b < x):Dice w' b sv code d:=by
 obtain ⟨j,h1,h2,h3⟩:=h.blk
 obtain ⟨oa,cap,r1,r2⟩:=h.row
 refine ⟨⟨j,h1,h2,(k.block b (zCqB h3) (fun hm=>by have:=hS b hm;omega)).trans h3⟩,⟨oa,cap,r1,fun hne=>?_⟩,h.len,h.wf⟩
 obtain ⟨g,off,e,hg,hc⟩:=r2 hne
 have:=h.lt
 exact ⟨g,off,e,hg,fun i x hx=>(k.cell (p:=⟨g,off+i,none⟩) (by show g < _;omega) (fun hm=>by have:b < g:=hS _ hm;omega)).trans (hc i x hx)⟩
theorem Dice.below {w w':World} {b:Nat} {sv:Value} {code d:List Int} (h:Dice w b sv code d) (k:Below w.heap.size w w'):Dice w' b sv code d:=h.kept (S:=[]) (Kept.of_below k) (by simp)
theorem Dice.drewN {w:World} {b:Nat} {sv:Value} {code d:List Int} (h:Dice w b sv code d) (n:Nat):Dice (w.drewN n) b sv code d:=⟨h.blk,h.row,h.len,h.wf⟩
theorem Dice.step {w:World} {b:Nat} {sv:Value} {code d:List Int} {k:Nat} (h:Dice w b sv code d) (hb:w.heap[b]?=some (.cells #[sv,.int .i64 (k:Int)] 35 (0,0))) (hk:k < code.length):Dice (w.setCell ⟨b,1,none⟩ (.int .i64 ((k:Int)+1))) b sv code (code.drop (k+1)):=by
 obtain ⟨oa,cap,r1,r2⟩:=h.row
 refine ⟨⟨k+1,by omega,rfl,by rw [zFg hb];simp⟩,⟨oa,cap,r1,fun hne=>?_⟩,h.len,h.wf⟩
 obtain ⟨g,off,e,hg,hc⟩:=r2 hne
 refine ⟨g,off,e,hg,fun j x hj=>?_⟩
 have:=((Kept.refl [b] w).setCell (p:=⟨b,1,none⟩) (Or.inl (by simp)) (.int .i64 ((k:Int)+1))).cell (p:=⟨g,off+j,none⟩) (by show g < _;have:=zCqB hb;omega) (by simp;omega)
 exact this.trans (hc j x hj)

theorem next_any (b n:Nat) (sv:Value) (code d:List Int) (w:World) (hd:Dice w b sv code d) (hn:0 < n):
 Calls Tryz.prog 24 #[.pointer (some ⟨b,0,none⟩),.int .i64 (n:Int)] w fun e w'=>
  e=.returned (.int .i64 ((z1S n d).1:Int))∧Dice w' b sv code (z1S n d).2∧Kept [b] w w':=by
 obtain ⟨k,hk,rfl,hb⟩:=hd.blk
 obtain ⟨oa,cap,rfl,hrow⟩:=hd.row
 have hlen:=hd.len
 have c0:w.cell? ⟨b,0,none⟩=some (.slice oa code.length cap):=by rw [zBk hb];rfl
 have c1:w.cell? ⟨b,1,none⟩=some (.int .i64 (k:Int)):=by rw [zBk hb];rfl
 have fz:w.frozen? ⟨b,1,none⟩=false:=zBn hb 1
 by_cases hlt:k < code.length
 · have hne:code≠[]:=by intro h;rw [h] at hlt;simp at hlt
   obtain ⟨g,off,rfl,hg,hc⟩:=hrow hne
   have hx:=hc k code[k] (List.getElem?_eq_getElem hlt)
   have hwf:=hd.wf code[k] (List.getElem_mem hlt)
   have hD:Hid (code.drop k=code[k]::code.drop (k+1)):=List.drop_eq_getElem_cons hlt
   rw [hD.out]
   unfold z1S
   dsimp only
   generalize code[k]=x at*
   have hlt':¬ (code.length:Int)≤(k:Int):=by omega
   have hlt2:(k:Int) < (code.length:Int):=by omega
   have hng:g≠b:=by omega
   clear hc hrow hne hD
   go_enter Tryz.func24,Tryz.ntmps24
   go_wp2
   go_quiet (fail)
   go_wp2
   have c0:(w.drewN nq).cell? ⟨b,0,none⟩=some (.slice (some ⟨g,off,none⟩) code.length cap):=c0
   have c1:(w.drewN nq).cell? ⟨b,1,none⟩=some (.int .i64 (k:Int)):=c1
   have fz:(w.drewN nq).frozen? ⟨b,1,none⟩=false:=fz
   have hx:(w.drewN nq).cell? ⟨g,off+k,none⟩=some (.int .i64 x):=hx
   have hd1:=hd.drewN nq
   have hk1:Kept [b] w (w.drewN nq):=(Kept.refl _ _).drewN nq
   have hb1:(w.drewN nq).heap[b]?=some (.cells #[.slice (some ⟨g,off,none⟩) code.length cap,.int .i64 (k:Int)] 35 (0,0)):=hb
   clear hd hb
   generalize w.drewN nq=W at*
   go_quiet ((go_at_call 15;exact Calls.quiet_of_same (z5u x n _ hwf.1 hwf.2 hn)))
   go_wp2
   go_ret
   exact ⟨rfl,(hd1.drewN _).step hb1 hlt,(hk1.drewN _).setCell (p:=⟨b,1,none⟩) (Or.inl (by simp)) _⟩
 · have hnil:code.drop k=[]:=List.drop_eq_nil_of_le (by omega)
   have hge:(code.length:Int)≤(k:Int):=by omega
   rw [hnil]
   rw [hnil] at hd
   unfold z1S
   dsimp only
   clear hrow
   go_enter Tryz.func24,Tryz.ntmps24
   go_wp2
   go_quiet (fail)
   go_wp2
   go_ret
   exact ⟨rfl,hd.drewN _,(Kept.refl _ _).drewN _⟩

def modS (i:Nat):List UInt8:=match i with | 0=>sReg | 1=>sKv | 2=>zsK | 3=>sSet | _=>zyy
def zSt (i:Nat):Bool:=i == 1||i == 3
def opS (i k:Nat):List UInt8:=match i,k with
 | 0,0=>[114,101,97,100] | 0,1=>[119,114,105,116,101] | 0,_=>[99,97,115]
 | 1,0=>[103,101,116] | 1,1=>[112,117,116] | 1,_=>[100,101,108]
 | 2,0=>[101,110,113] | 2,_=>[100,101,113]
 | 3,0=>[97,100,100] | 3,1=>[114,101,109] | 3,_=>[104,97,115]
 | _,0=>[97,99,113] | _,_=>[114,101,108]
def opN (i:Nat):Nat:=match i with | 2=>2 | 4=>2 | _=>3

theorem zUa (i:Nat) (hi:i < 5) (w:World):
 Calls Tryz.prog 31 #[.string ⟨(modS i).toArray⟩] w fun e w'=>e=.returned (.bool (zSt i))∧w'=w:=by
 match i,hi with
 | 0,_=>go_enter Tryz.func31,Tryz.ntmps31;go_wp2;go_ret;exact ⟨rfl,rfl⟩
 | 1,_=>go_enter Tryz.func31,Tryz.ntmps31;go_wp2;go_ret;exact ⟨rfl,rfl⟩
 | 2,_=>go_enter Tryz.func31,Tryz.ntmps31;go_wp2;go_ret;exact ⟨rfl,rfl⟩
 | 3,_=>go_enter Tryz.func31,Tryz.ntmps31;go_wp2;go_ret;exact ⟨rfl,rfl⟩
 | 4,_=>go_enter Tryz.func31,Tryz.ntmps31;go_wp2;go_ret;exact ⟨rfl,rfl⟩

theorem zWy (c:Int) (w:World) (hc:zRK c):
 Calls Tryz.prog 8 #[.int .i64 c] w fun e w'=>e=.returned (.string ⟨(modS (pickP c 5)).toArray⟩)∧w'=w:=by
 have hlt:=zdA c (show 0 < 5 by omega)
 have h:=z5u c 5 w hc.1 hc.2 (by omega)
 generalize pickP c 5=p at*
 obtain rfl | rfl | rfl | rfl | rfl:p=0∨p=1∨p=2∨p=3∨p=4:=by omega
 all_goals
  go_enter Tryz.func8,Tryz.ntmps8
  go_wp2_with fail
  refine h.mono ?_
  rintro e w1 ⟨rfl,hw⟩
  have hw':=hw.symm
  clear hw h
  subst hw'
  go_wp2
  go_ret
  exact ⟨rfl,rfl⟩

theorem zDv (w:World):Calls Tryz.prog 40 #[] w fun e w'=>e=.returned (.agg #[.int .i64 0,.int .i64 0])∧Below w.heap.size w w':=by
 go_enter Tryz.func40,Tryz.ntmps40
 go_wp2
 exact bodyPost_ret (v:=.agg #[.int .i64 0,.int .i64 0]) (by simp [results,Tryz.results40,go_sem]) rfl ⟨rfl,(Below.refl _ _).alloc (Nat.le_refl _) _⟩
def bI (b:Bool):Int:=if b then 1 else 0
theorem ze7 (b:Bool) (w:World):Calls Tryz.prog 41 #[.bool b] w fun e w'=>e=.returned (.agg #[.int .i64 2,.int .i64 (bI b)])∧Below w.heap.size w w':=by
 cases b with
 | false=>
   go_enter Tryz.func41,Tryz.ntmps41
   go_wp2
   exact bodyPost_ret (v:=.agg #[.int .i64 2,.int .i64 0]) (by simp [results,Tryz.results41,go_sem]) rfl ⟨rfl,(Below.refl _ _).alloc (Nat.le_refl _) _⟩
 | true=>
   go_enter Tryz.func41,Tryz.ntmps41
   go_wp2
   exact bodyPost_ret (v:=.agg #[.int .i64 2,.int .i64 1]) (by simp [results,Tryz.results41,go_sem]) rfl ⟨rfl,(Below.refl _ _).alloc (Nat.le_refl _) _⟩
theorem zyj (n:Int) (w:World):Calls Tryz.prog 39 #[.int .i64 n] w fun e w'=>e=.returned (.agg #[.int .i64 1,.int .i64 n])∧Below w.heap.size w w':=by
 go_enter Tryz.func39,Tryz.ntmps39
 go_wp2
 exact bodyPost_ret (v:=.agg #[.int .i64 1,.int .i64 n]) (by simp [results,Tryz.results39,go_sem]) rfl ⟨rfl,(Below.refl _ _).alloc (Nat.le_refl _) _⟩
theorem zo4 (c:Int) (w:World) (hc:zRK c):
 Calls Tryz.prog 36 #[.string ⟨(modS 0).toArray⟩,.int .i64 c] w fun e w'=>e=.returned (.string ⟨(opS 0 (pickP c 3)).toArray⟩)∧Below w.heap.size w w':=by
 have hlt:=zdA c (n:=3) (by omega)
 have h:=fun W=>z5u c 3 W hc.1 hc.2 (by omega)
 generalize pickP c 3=p at*
 obtain rfl | rfl | rfl:p=0∨p=1∨p=2:=by omega
 all_goals
  unfold modS sReg
  go_enter Tryz.func36,Tryz.ntmps36
  go_wp2_with fail
  refine (h _).mono ?_
  rintro e w1 ⟨rfl,hw⟩
  have hw':=hw.symm
  clear hw h
  subst hw'
  go_wp2
  go_ret
  exact ⟨rfl,(Below.refl _ _).alloc (Nat.le_refl _) _⟩
theorem zGi (c:Int) (w:World) (hc:zRK c):
 Calls Tryz.prog 36 #[.string ⟨(modS 1).toArray⟩,.int .i64 c] w fun e w'=>e=.returned (.string ⟨(opS 1 (pickP c 3)).toArray⟩)∧Below w.heap.size w w':=by
 have hlt:=zdA c (n:=3) (by omega)
 have h:=fun W=>z5u c 3 W hc.1 hc.2 (by omega)
 generalize pickP c 3=p at*
 obtain rfl | rfl | rfl:p=0∨p=1∨p=2:=by omega
 all_goals
  unfold modS sKv
  go_enter Tryz.func36,Tryz.ntmps36
  go_wp2_with fail
  refine (h _).mono ?_
  rintro e w1 ⟨rfl,hw⟩
  have hw':=hw.symm
  clear hw h
  subst hw'
  go_wp2
  go_ret
  exact ⟨rfl,(Below.refl _ _).alloc (Nat.le_refl _) _⟩
theorem zZO (c:Int) (w:World) (hc:zRK c):
 Calls Tryz.prog 36 #[.string ⟨(modS 2).toArray⟩,.int .i64 c] w fun e w'=>e=.returned (.string ⟨(opS 2 (pickP c 2)).toArray⟩)∧Below w.heap.size w w':=by
 have hlt:=zdA c (n:=2) (by omega)
 have h:=fun W=>z5u c 2 W hc.1 hc.2 (by omega)
 generalize pickP c 2=p at*
 obtain rfl | rfl:p=0∨p=1:=by omega
 all_goals
  unfold modS zsK
  go_enter Tryz.func36,Tryz.ntmps36
  go_wp2_with fail
  refine (h _).mono ?_
  rintro e w1 ⟨rfl,hw⟩
  have hw':=hw.symm
  clear hw h
  subst hw'
  go_wp2
  go_ret
  exact ⟨rfl,(Below.refl _ _).alloc (Nat.le_refl _) _⟩
theorem ziz (c:Int) (w:World) (hc:zRK c):
 Calls Tryz.prog 36 #[.string ⟨(modS 3).toArray⟩,.int .i64 c] w fun e w'=>e=.returned (.string ⟨(opS 3 (pickP c 3)).toArray⟩)∧Below w.heap.size w w':=by
 have hlt:=zdA c (n:=3) (by omega)
 have h:=fun W=>z5u c 3 W hc.1 hc.2 (by omega)
 generalize pickP c 3=p at*
 obtain rfl | rfl | rfl:p=0∨p=1∨p=2:=by omega
 all_goals
  unfold modS sSet
  go_enter Tryz.func36,Tryz.ntmps36
  go_wp2_with fail
  refine (h _).mono ?_
  rintro e w1 ⟨rfl,hw⟩
  have hw':=hw.symm
  clear hw h
  subst hw'
  go_wp2
  go_ret
  exact ⟨rfl,(Below.refl _ _).alloc (Nat.le_refl _) _⟩
theorem zPv (c:Int) (w:World) (hc:zRK c):
 Calls Tryz.prog 36 #[.string ⟨(modS 4).toArray⟩,.int .i64 c] w fun e w'=>e=.returned (.string ⟨(opS 4 (pickP c 2)).toArray⟩)∧Below w.heap.size w w':=by
 have hlt:=zdA c (n:=2) (by omega)
 have h:=fun W=>z5u c 2 W hc.1 hc.2 (by omega)
 generalize pickP c 2=p at*
 obtain rfl | rfl:p=0∨p=1:=by omega
 all_goals
  unfold modS zyy
  go_enter Tryz.func36,Tryz.ntmps36
  go_wp2_with fail
  refine (h _).mono ?_
  rintro e w1 ⟨rfl,hw⟩
  have hw':=hw.symm
  clear hw h
  subst hw'
  go_wp2
  go_ret
  exact ⟨rfl,(Below.refl _ _).alloc (Nat.le_refl _) _⟩
theorem zIh (i:Nat) (hi:i < 5) (c:Int) (w:World) (hc:zRK c):
 Calls Tryz.prog 36 #[.string ⟨(modS i).toArray⟩,.int .i64 c] w fun e w'=>e=.returned (.string ⟨(opS i (pickP c (opN i))).toArray⟩)∧Below w.heap.size w w':=by
 match i,hi with
 | 0,_=>exact zo4 c w hc
 | 1,_=>exact zGi c w hc
 | 2,_=>exact zZO c w hc
 | 3,_=>exact ziz c w hc
 | 4,_=>exact zPv c w hc

def keyS (k:Nat):List UInt8:=match k with | 0=>[97] | 1=>[98,34,92] | _=>[195,169,240,159,152,128]
theorem z8u (k:Nat) (hk:k < 3) (w:World):Calls Tryz.prog 37 #[.int .i64 (k:Int)] w fun e w'=>e=.returned (.string ⟨(keyS k).toArray⟩)∧Below w.heap.size w w':=by
 obtain rfl | rfl | rfl:k=0∨k=1∨k=2:=by omega
 all_goals
  go_enter Tryz.func37,Tryz.ntmps37
  go_wp2
  go_ret
  exact ⟨rfl,(Below.refl _ _).alloc (Nat.le_refl _) _⟩


def digP (n:Nat):List UInt8:=if n < 10 then [UInt8.ofNat (48+n)] else digP (n / 10)++[UInt8.ofNat (48+n % 10)]
termination_by n
decreasing_by omega
theorem zih (n:Nat) (h:n < 1000000):(digP n).length≤6:=by
 rw [digP];split
 · simp
 · rw [digP];split
   · simp
   · rw [digP];split
     · simp
     · rw [digP];split
       · simp
       · rw [digP];split
         · simp
         · rw [digP];split
           · simp
           · omega
theorem zVe (U:World) (b:Nat) (z:Nat) (h:U.cell? ⟨b,0,none⟩=some (.int .u8 (z:Int))):
 (convert 99 9 (.slice (some ⟨b,0,none⟩) 1 1)).run Tryz.prog U=.ok (.string ⟨[UInt8.ofNat z].toArray⟩) U:=by
 have hcv:=run_convert_bytes_arg (P:=Tryz.prog) U 99 5 Tryz.underlying99 Tryz.underlying5 b 0 1 1 [(z:Int)] rfl (fun i hi=>by
  obtain rfl:i=0:=by omega
  exact h) 9 Tryz.underlying9
 rw [hcv]
 have:strOfNums [(z:Int)]=⟨[UInt8.ofNat z].toArray⟩:=rfl
 rw [this]
theorem zAs (a b:List UInt8):((⟨a.toArray⟩:ByteArray)++⟨b.toArray⟩)=⟨(a++b).toArray⟩:=by
 apply ByteArray.ext
 simp
def dig1 (z:Nat):List UInt8:=[UInt8.ofNat (48+z)]
theorem zIU (U:World) (b:Nat) (z:Nat) (h:U.cell? ⟨b,0,none⟩=some (.int .u8 (48+(z:Int)))):
 (convert 99 9 (.slice (some ⟨b,0,none⟩) 1 1)).run Tryz.prog U=.ok (.string ⟨(dig1 z).toArray⟩) U:=zVe U b (48+z) (h.trans (by rw [show ((48+z:Nat):Int)=48+(z:Int) by omega]))
theorem zjq (U:World) (z:Nat):
 (convert 99 9 (.slice (some ⟨U.heap.size,0,none⟩) 1 1)).run Tryz.prog (U.alloc (.cells #[.int .u8 (48+(z:Int))] 5))=.ok (.string ⟨(dig1 z).toArray⟩) (U.alloc (.cells #[.int .u8 (48+(z:Int))] 5)):=
 zIU _ _ z (by rw [zBk (ziF U _ _ rfl)];rfl)
theorem zps (U:World) (z:Nat):
 (convert 99 9 (.slice (some ⟨U.heap.size,0,none⟩) 1 1)).run Tryz.prog (U.alloc (.cells #[.int .u8 (48+(z:Int))] 5)).drew=.ok (.string ⟨(dig1 z).toArray⟩) (U.alloc (.cells #[.int .u8 (48+(z:Int))] 5)).drew:=
 zIU (U.alloc (.cells #[.int .u8 (48+(z:Int))] 5)).drew _ z (by show (U.alloc (.cells #[.int .u8 (48+(z:Int))] 5)).cell? _=_;rw [zBk (ziF U _ _ rfl)];rfl)
theorem z3m (q r:Nat) (dl:List UInt8) (h:∀ w,Calls Tryz.prog 32 #[.int .i64 (q:Int)] w fun e w'=>e=.returned (.string ⟨dl.toArray⟩)∧Below w.heap.size w w') (W1 W:World) (hW:Below W1.heap.size W1 W):
 Calls Tryz.prog 32 #[.int .i64 (q:Int)] W fun e w'=>e=.returned (.string ⟨dl.toArray⟩)∧Below W1.heap.size W1 w'∧
  (W.heap[W1.heap.size]?=some (.cells #[.int .u8 (48+(r:Int))] 5 (0,0))→(convert 99 9 (.slice (some ⟨W1.heap.size,0,none⟩) 1 1)).run Tryz.prog w'=.ok (.string ⟨(dig1 r).toArray⟩) w'):=by
 refine (h W).mono ?_
 rintro e w' ⟨rfl,hb⟩
 exact ⟨rfl,hW.trans (hb.mono hW.size),fun hz=>zIU w' _ r (by rw [zBk ((hb.block W1.heap.size (zCqB hz)).trans hz)];rfl)⟩
theorem zDI (n:Nat):∀ (w:World),n < 1000000→
 Calls Tryz.prog 32 #[.int .i64 (n:Int)] w fun e w'=>e=.returned (.string ⟨(digP n).toArray⟩)∧Below w.heap.size w w':=by
 induction n using Nat.strongRecOn with
 | ind n ih=>
   intro w hn
   by_cases h:n < 10
   · have h':(n:Int) < 10:=by omega
     have hd:Hid (digP n=dig1 n):=by rw [digP,if_pos h];exact rfl
     have hcv:=zjq w n
     clear ih
     go_enter Tryz.func32,Tryz.ntmps32
     go_wp2
     go_ret
     exact ⟨by rw [hd.out];rfl,(Below.refl _ _).alloc (Nat.le_refl _) _⟩
   · have h':¬ (n:Int) < 10:=by omega
     have hd:Hid (digP n=digP (n / 10)++dig1 (n % 10)):=by rw [digP,if_neg h];exact rfl
     have hl:=zih (n / 10) (by omega)
     have hih:=fun w=>ih (n / 10) (by omega) w (by omega)
     clear ih
     have hq:Int.tdiv (n:Int) 10=((n / 10:Nat):Int):=by rw [Int.tdiv_eq_ediv_of_nonneg (by omega)];omega
     have hm:Int.tmod (n:Int) 10=((n % 10:Nat):Int):=by rw [Int.tmod_eq_emod_of_nonneg (by omega)];omega
     have hr10:n % 10 < 10:=Nat.mod_lt _ (by omega)
     generalize n % 10=r at*
     generalize digP (n / 10)=dl at*
     have hqn:n / 10 < 1000000:=by omega
     generalize n / 10=q at*
     have hdl:(dig1 r).length=1:=rfl
     have hw1:IntKind.i64.wrap (q:Int)=(q:Int):=z6Xb (by omega) (by omega)
     have hw2:IntKind.i64.wrap (48+(r:Int))=48+(r:Int):=z6Xb (by omega) (by omega)
     have hw3:IntKind.u8.wrap (48+(r:Int))=48+(r:Int):=by rw [IntKind.wrap_u8];omega
     have hgen:=z3m q r dl hih w
     have hcvB:=zps w r
     have hA1:Below w.heap.size w w.drew:=(Below.refl _ _).drew
     have hA2:∀ o,Below w.heap.size w (w.alloc o).drew:=fun o=>((Below.refl _ _).alloc (Nat.le_refl _) o).drew
     clear hih
     go_enter Tryz.func32,Tryz.ntmps32
     go_wp2_with fail
     go_cut [2] (fun a wx=>a=.string ⟨(dl++dig1 r).toArray⟩∧Below w.heap.size w wx)
     case first=>
      go_region_with (first
       | (go_at_call 32;refine (hgen _ (by first | exact hA1 | exact hA2 _)).mono ?_;rintro e w2 ⟨rfl,hb2,hz⟩;try (have hz':=hz (ziF w _ _ rfl));clear hz)
       | rw [zjq] | rw [zps] | rw [hz'])
      all_goals
       go_wp2_with fail
       go_meet
       exact ⟨by rw [zAs],by first | exact hb2 | exact hb2.alloc hb2.size _⟩
     case rest=>
      obtain ⟨rfl,hb⟩:=hcut
      go_wp2
      go_ret
      exact ⟨by rw [hd.out];rfl,hb⟩

def sgnP (n:Int):List UInt8:=if n < 0 then 45::digP n.natAbs else digP n.toNat
theorem zkB (n:Int) (h0: -1000000 < n) (h1:n < 1000000):(sgnP n).length≤7:=by
 unfold sgnP
 split
 · have:=zih n.natAbs (by omega);simp;omega
 · have:=zih n.toNat (by omega);omega
theorem zT1 (n:Int) (w:World) (h0: -1000000 < n) (h1:n < 1000000):
 Calls Tryz.prog 22 #[.int .i64 n] w fun e w'=>e=.returned (.string ⟨(sgnP n).toArray⟩)∧Below w.heap.size w w':=by
 by_cases h:n < 0
 · have hd:Hid (sgnP n=[45]++digP n.natAbs):=by unfold sgnP;rw [if_pos h];exact rfl
   have hl:=zih n.natAbs (by omega)
   have hdg:=zDI n.natAbs
   have hn:((n.natAbs:Nat):Int)= -n:=by omega
   rw [hn] at hdg
   generalize digP n.natAbs=dl at*
   have hlt:n.natAbs < 1000000:=by omega
   go_enter Tryz.func22,Tryz.ntmps22
   go_wp2_with fail
   refine (hdg _ hlt).mono ?_
   rintro e w1 ⟨rfl,hb⟩
   go_wp2
   go_ret
   exact ⟨by rw [hd.out,←zAs];rfl,hb⟩
 · have hd:Hid (sgnP n=digP n.toNat):=by unfold sgnP;rw [if_neg h];exact rfl
   have hdg:=zDI n.toNat
   have hn:((n.toNat:Nat):Int)=n:=by omega
   rw [hn] at hdg
   have hlt:n.toNat < 1000000:=by omega
   generalize digP n.toNat=dl at*
   go_enter Tryz.func22,Tryz.ntmps22
   go_wp2_with fail
   refine (hdg _ hlt).mono ?_
   rintro e w1 ⟨rfl,hb⟩
   go_wp2
   go_ret
   exact ⟨by rw [hd.out];rfl,hb⟩

def blS (k:Nat):List UInt8:=match k with | 0=>[] | 1=>[] | 2=>[32] | 3=>[9] | _=>[32,13]
def blankP (d:List Int):List UInt8×List Int:=(blS (z1S 5 d).1,(z1S 5 d).2)
theorem zDJ (b n:Nat) (sv:Value) (code d:List Int) (hn:0 < n) (o:Obj) (W1 W:World) (hd:Dice W1 b sv code d) (hW:Below W1.heap.size W1 W):
 Calls Tryz.prog 24 #[.pointer (some ⟨b,0,none⟩),.int .i64 (n:Int)] W fun e w'=>
  e=.returned (.int .i64 ((z1S n d).1:Int))∧Dice w' b sv code (z1S n d).2∧Kept [b] W1 w'∧(W.heap[W1.heap.size]?=some o→w'.heap[W1.heap.size]?=some o):=by
 refine (next_any b n sv code d W (hd.below hW) hn).mono ?_
 rintro e w' ⟨rfl,h1,h2⟩
 have hlt:=hd.lt
 exact ⟨rfl,h1,(Kept.of_below hW).trans (h2.mono (by simp)),fun ho=>(h2.block _ (zCqB ho) (by simp;omega)).trans ho⟩
theorem zf5 (b:Nat) (sv:Value) (code d:List Int) (w:World) (hd:Dice w b sv code d):
 Calls Tryz.prog 52 #[.pointer (some ⟨b,0,none⟩)] w fun e w'=>
  e=.returned (.string ⟨(blankP d).1.toArray⟩)∧Dice w' b sv code (blankP d).2∧Kept [b] w w':=by
 have hgen:=fun W hW=>zDJ b 5 sv code d (by omega) (.cells #[.string ⟨#[]⟩,.string ⟨#[]⟩,.string ⟨#[32]⟩,.string ⟨#[9]⟩,.string ⟨#[32,13]⟩] 9) w W hd hW
 have hlt:=zKB (n:=5) (by omega) d
 unfold blankP
 dsimp only
 generalize (z1S 5 d).1=p at*
 generalize (z1S 5 d).2=d' at*
 have hx:(#[.string ⟨#[]⟩,.string ⟨#[]⟩,.string ⟨#[32]⟩,.string ⟨#[9]⟩,.string ⟨#[32,13]⟩]:Array Value)[p]?=some (.string ⟨(blS p).toArray⟩):=by
  obtain rfl | rfl | rfl | rfl | rfl:p=0∨p=1∨p=2∨p=3∨p=4:=by omega
  all_goals rfl
 have hp5:(p:Int) < 5:=by omega
 clear hd
 go_enter Tryz.func52,Tryz.ntmps52
 go_wp2_with fail
 refine (hgen _ ((Below.refl _ _).alloc (Nat.le_refl _) _)).mono ?_
 rintro e w2 ⟨rfl,hd2,hk2,ho⟩
 have hb2:=ho (ziF w _ _ rfl)
 have hc:w2.cell? ⟨w.heap.size,p,none⟩=some (.string ⟨(blS p).toArray⟩):=by rw [zBk hb2];exact hx
 clear ho hb2 hx hgen
 go_wp2
 go_ret
 exact ⟨rfl,hd2,hk2⟩

def spS (k p:Nat):List UInt8:=match k,p with
 | 0,0=>[97] | 0,_=>[92,117,48,48,54,49]
 | 1,0=>[98,92,34,92,92] | 1,_=>[92,117,48,48,54,50,92,117,48,48,50,50,92,117,48,48,53,67]
 | _,0=>[195,169,240,159,152,128] | _,1=>[92,117,48,48,101,57,92,117,100,56,51,100,92,117,68,69,48,48] | _,_=>[195,169,92,117,68,56,51,68,92,117,100,101,48,48]
def spN (k:Nat):Nat:=match k with | 0=>2 | 1=>2 | _=>3
def zPM (k:Nat) (d:List Int):List UInt8×List Int:=(spS k (z1S (spN k) d).1,(z1S (spN k) d).2)
theorem zFR (b:Nat) (sv:Value) (code d:List Int) (w:World) (hd:Dice w b sv code d):
 Calls Tryz.prog 53 #[.pointer (some ⟨b,0,none⟩),.int .i64 0] w fun e w'=>
  e=.returned (.string ⟨(zPM 0 d).1.toArray⟩)∧Dice w' b sv code (zPM 0 d).2∧Kept [b] w w':=by
 have hgen:=fun W hW=>zDJ b 2 sv code d (by omega) (.cells #[.string ⟨#[97]⟩,.string ⟨#[92,117,48,48,54,49]⟩] 9) w W hd hW
 have hlt:=zKB (n:=2) (by omega) d
 unfold zPM
 rw [show spN 0=2 from rfl]
 dsimp only
 generalize (z1S 2 d).1=p at*
 generalize (z1S 2 d).2=d' at*
 have hx:(#[.string ⟨#[97]⟩,.string ⟨#[92,117,48,48,54,49]⟩]:Array Value)[p]?=some (.string ⟨(spS 0 p).toArray⟩):=by
  obtain rfl | rfl:p=0∨p=1:=by omega
  all_goals rfl
 have hp5:(p:Int) < 2:=by omega
 clear hd
 go_enter Tryz.func53,Tryz.ntmps53
 go_wp2_with fail
 refine (hgen _ ((Below.refl _ _).alloc (Nat.le_refl _) _)).mono ?_
 rintro e w2 ⟨rfl,hd2,hk2,ho⟩
 have hb2:=ho (ziF w _ _ rfl)
 have hc:w2.cell? ⟨w.heap.size,p,none⟩=some (.string ⟨(spS 0 p).toArray⟩):=by rw [zBk hb2];exact hx
 clear ho hb2 hx hgen
 go_wp2
 go_ret
 exact ⟨rfl,hd2,hk2⟩
theorem zeZ (b:Nat) (sv:Value) (code d:List Int) (w:World) (hd:Dice w b sv code d):
 Calls Tryz.prog 53 #[.pointer (some ⟨b,0,none⟩),.int .i64 1] w fun e w'=>
  e=.returned (.string ⟨(zPM 1 d).1.toArray⟩)∧Dice w' b sv code (zPM 1 d).2∧Kept [b] w w':=by
 have hgen:=fun W hW=>zDJ b 2 sv code d (by omega) (.cells #[.string ⟨#[98,92,34,92,92]⟩,.string ⟨#[92,117,48,48,54,50,92,117,48,48,50,50,92,117,48,48,53,67]⟩] 9) w W hd hW
 have hlt:=zKB (n:=2) (by omega) d
 unfold zPM
 rw [show spN 1=2 from rfl]
 dsimp only
 generalize (z1S 2 d).1=p at*
 generalize (z1S 2 d).2=d' at*
 have hx:(#[.string ⟨#[98,92,34,92,92]⟩,.string ⟨#[92,117,48,48,54,50,92,117,48,48,50,50,92,117,48,48,53,67]⟩]:Array Value)[p]?=some (.string ⟨(spS 1 p).toArray⟩):=by
  obtain rfl | rfl:p=0∨p=1:=by omega
  all_goals rfl
 have hp5:(p:Int) < 2:=by omega
 clear hd
 go_enter Tryz.func53,Tryz.ntmps53
 go_wp2_with fail
 refine (hgen _ ((Below.refl _ _).alloc (Nat.le_refl _) _)).mono ?_
 rintro e w2 ⟨rfl,hd2,hk2,ho⟩
 have hb2:=ho (ziF w _ _ rfl)
 have hc:w2.cell? ⟨w.heap.size,p,none⟩=some (.string ⟨(spS 1 p).toArray⟩):=by rw [zBk hb2];exact hx
 clear ho hb2 hx hgen
 go_wp2
 go_ret
 exact ⟨rfl,hd2,hk2⟩
theorem zJi (b:Nat) (sv:Value) (code d:List Int) (w:World) (hd:Dice w b sv code d):
 Calls Tryz.prog 53 #[.pointer (some ⟨b,0,none⟩),.int .i64 2] w fun e w'=>
  e=.returned (.string ⟨(zPM 2 d).1.toArray⟩)∧Dice w' b sv code (zPM 2 d).2∧Kept [b] w w':=by
 have hgen:=fun W hW=>zDJ b 3 sv code d (by omega) (.cells #[.string ⟨#[195,169,240,159,152,128]⟩,.string ⟨#[92,117,48,48,101,57,92,117,100,56,51,100,92,117,68,69,48,48]⟩,.string ⟨#[195,169,92,117,68,56,51,68,92,117,100,101,48,48]⟩] 9) w W hd hW
 have hlt:=zKB (n:=3) (by omega) d
 unfold zPM
 rw [show spN 2=3 from rfl]
 dsimp only
 generalize (z1S 3 d).1=p at*
 generalize (z1S 3 d).2=d' at*
 have hx:(#[.string ⟨#[195,169,240,159,152,128]⟩,.string ⟨#[92,117,48,48,101,57,92,117,100,56,51,100,92,117,68,69,48,48]⟩,.string ⟨#[195,169,92,117,68,56,51,68,92,117,100,101,48,48]⟩]:Array Value)[p]?=some (.string ⟨(spS 2 p).toArray⟩):=by
  obtain rfl | rfl | rfl:p=0∨p=1∨p=2:=by omega
  all_goals rfl
 have hp5:(p:Int) < 3:=by omega
 clear hd
 go_enter Tryz.func53,Tryz.ntmps53
 go_wp2_with fail
 refine (hgen _ ((Below.refl _ _).alloc (Nat.le_refl _) _)).mono ?_
 rintro e w2 ⟨rfl,hd2,hk2,ho⟩
 have hb2:=ho (ziF w _ _ rfl)
 have hc:w2.cell? ⟨w.heap.size,p,none⟩=some (.string ⟨(spS 2 p).toArray⟩):=by rw [zBk hb2];exact hx
 clear ho hb2 hx hgen
 go_wp2
 go_ret
 exact ⟨rfl,hd2,hk2⟩
theorem znb (k:Nat) (hk:k < 3) (b:Nat) (sv:Value) (code d:List Int) (w:World) (hd:Dice w b sv code d):
 Calls Tryz.prog 53 #[.pointer (some ⟨b,0,none⟩),.int .i64 (k:Int)] w fun e w'=>
  e=.returned (.string ⟨(zPM k d).1.toArray⟩)∧Dice w' b sv code (zPM k d).2∧Kept [b] w w':=by
 match k,hk with
 | 0,_=>exact zFR b sv code d w hd
 | 1,_=>exact zeZ b sv code d w hd
 | 2,_=>exact zJi b sv code d w hd

def zTS (k n:Int):List UInt8:=if k=1 then sgnP n else if k=2 then (if n=1 then [116,114,117,101] else [102,97,108,115,101]) else [110,117,108,108]
def zWP (k n:Int):Prop:=(k=0∧n=0)∨(k=1∧ -1000000 < n∧n < 1000000)∨(k=2∧(n=0∨n=1))
theorem zMxv (k n:Int) (w:World) (h:zWP k n):
 Calls Tryz.prog 34 #[.agg #[.int .i64 k,.int .i64 n]] w fun e w'=>e=.returned (.string ⟨(zTS k n).toArray⟩)∧Below w.heap.size w w':=by
 rcases h with ⟨rfl,rfl⟩ | ⟨rfl,h1,h2⟩ | ⟨rfl,rfl | rfl⟩
 · go_enter Tryz.func34,Tryz.ntmps34
   go_wp2
   go_ret
   exact ⟨rfl,(Below.refl _ _).alloc (Nat.le_refl _) _⟩
 · go_enter Tryz.func34,Tryz.ntmps34
   go_wp2_with fail
   refine (zT1 n _ h1 h2).mono ?_
   rintro e w1 ⟨rfl,hb⟩
   go_wp2
   go_ret
   exact ⟨rfl,((Below.refl _ _).alloc (Nat.le_refl _) _).trans (hb.mono (by simp))⟩
 · go_enter Tryz.func34,Tryz.ntmps34
   go_wp2
   go_ret
   exact ⟨rfl,((Below.refl _ _).alloc (Nat.le_refl _) _).alloc (by simp) _⟩
 · go_enter Tryz.func34,Tryz.ntmps34
   go_wp2
   go_ret
   exact ⟨rfl,((Below.refl _ _).alloc (Nat.le_refl _) _).alloc (by simp) _⟩

def SRow (w:World) (g:Nat) (ms:List (List UInt8)):Prop:=g < w.heap.size∧∀ j x,ms[j]?=some x→w.cell? ⟨g,j,none⟩=some (.string ⟨x.toArray⟩)
theorem SRow.kept {S:List Nat} {w w':World} {g:Nat} {ms:List (List UInt8)} (h:SRow w g ms) (k:Kept S w w') (hS:g∉S):SRow w' g ms:=
 ⟨Nat.lt_of_lt_of_le h.1 k.size,fun j x hj=>(k.cell (p:=⟨g,j,none⟩) h.1 hS).trans (h.2 j x hj)⟩
theorem za4 (d:List Int):(blankP d).1.length≤2:=by
 unfold blankP blS
 dsimp only
 split <;> simp
def zYs (ms:List (List UInt8)) (f:Nat):Nat→Nat→List UInt8→List Int→List UInt8×List Int
 | 0,_,s,d=>(s,d)
 | m+1,i,s,d=>zYs ms f m (i+1) ((if i=0 then s else s++[44])++(blankP d).1++ms.getD ((f+i) % ms.length) []++(blankP (blankP d).2).1) (blankP (blankP d).2).2
def zZ9 (ms:List (List UInt8)) (d:List Int):List UInt8×List Int:=
 let r:=zYs ms (z1S ms.length d).1 ms.length 0 ((blankP (z1S ms.length d).2).1++[123]) (blankP (z1S ms.length d).2).2
 (r.1++[125]++(blankP r.2).1,(blankP r.2).2)

theorem zkk (b g cap:Nat) (sv:Value) (code d:List Int) (ms:List (List UInt8)) (w:World) (hd:Dice w b sv code d) (hr:SRow w g ms) (hgb:g≠b) (hl0:0 < ms.length) (hl:ms.length≤1000) (hml:∀ m∈ms,m.length≤1000):
 Calls Tryz.prog 33 #[.pointer (some ⟨b,0,none⟩),.slice (some ⟨g,0,none⟩) ms.length cap] w fun e w'=>
  e=.returned (.string ⟨(zZ9 ms d).1.toArray⟩)∧Dice w' b sv code (zZ9 ms d).2∧Kept [b] w w':=by
 unfold zZ9
 dsimp only
 have hN:=next_any b ms.length sv code d w hd hl0
 have hflt:=zKB hl0 d
 generalize (z1S ms.length d).1=f at*
 generalize (z1S ms.length d).2=d1 at*
 have hB:=fun w h=>zf5 b sv code d1 w h
 have hbl:=za4 d1
 generalize (blankP d1).1=b1 at*
 generalize (blankP d1).2=d2 at*
 generalize hT:zYs ms f ms.length 0 (b1++[123]) d2=T at*
 have HN:Hid (∀ q,q < ms.length→∃ x,x.length≤1000∧ms.getD q []=x∧ms[q]?=some x):=fun q hq=>⟨ms[q],hml _ (List.getElem_mem hq),by rw [List.getD,List.getElem?_eq_getElem hq];rfl,List.getElem?_eq_getElem hq⟩
 have HE:Hid (∀ m j t dd,zYs ms f (m+1) j t dd=zYs ms f m (j+1) ((if j=0 then t else t++[44])++(blankP dd).1++ms.getD ((f+j) % ms.length) []++(blankP (blankP dd).2).1) (blankP (blankP dd).2).2):=fun m j t dd=>rfl
 clear hml
 generalize ms.length=n at*
 obtain ⟨T1,T2⟩:=T
 have hF:=fun w h=>zf5 b sv code T2 w h
 have hFl:=za4 T2
 dsimp only
 generalize (blankP T2).1=bF at*
 generalize (blankP T2).2=dF at*
 go_enter Tryz.func33,Tryz.ntmps33
 go_wp2_with fail
 refine hN.mono ?_
 rintro e w1 ⟨rfl,hd1,hk1⟩
 go_wp2_with fail
 refine (hB _ hd1).mono ?_
 rintro e w2 ⟨rfl,hd2,hk2⟩
 have hr2:=(hr.kept hk1 (by simp;omega)).kept hk2 (by simp;omega)
 have hk:=hk1.trans (hk2.mono (by simp))
 clear hk1 hk2 hd hd1 hr hN hB
 go_wp2
 go_loopw [6,7] (fun s i wr=>∃ (j m:Nat) (t:List UInt8) (dd:List Int),s=.string ⟨t.toArray⟩∧i=.int .i64 (j:Int)∧j+m=n∧t.length≤3+1005*j∧zYs ms f m j t dd=(T1,T2)∧Dice wr b sv code dd∧SRow wr g ms∧Kept [b] w wr) (fun _ i _=>n - (intOf i).toNat)
 case atStart=>exact ⟨0,n,b1++[123],d2,by rw [←zAs],rfl,by omega,by simp;omega,hT,hd2,hr2,hk⟩
 case round=>
  obtain ⟨j,m,t,dd,rfl,rfl,hjm,htl,HR,hdd,hrr,hkk⟩:=hrel
  have hR:Hid (zYs ms f m j t dd=(T1,T2)):=HR
  clear HR hT hd2 hr2 hk
  by_cases hin:j < n
  · obtain ⟨m,rfl⟩:∃ m',m=m'+1:=⟨m - 1,by omega⟩
    have hin':(j:Int) < (n:Int):=by omega
    obtain ⟨x,hxl,hX,hmx⟩:=HN.out ((f+j) % n) (Nat.mod_lt _ hl0)
    have hcx:=hrr.2 _ _ hmx
    have hS:Hid (zYs ms f m (j+1) ((if j=0 then t else t++[44])++(blankP dd).1++x++(blankP (blankP dd).2).1) (blankP (blankP dd).2).2=(T1,T2)):=by
     rw [←hR.out,HE.out,hX];exact rfl
    have hq:(f+j) % n < n:=Nat.mod_lt _ hl0
    have hw1:IntKind.i64.wrap ((f:Int)+(j:Int))=(f:Int)+(j:Int):=z5A (by omega) (by omega)
    have hm1:Int.tmod ((f:Int)+(j:Int)) (n:Int)=(((f+j) % n:Nat):Int):=by rw [Int.tmod_eq_emod_of_nonneg (by omega),←Int.natCast_add,←Int.natCast_emod]
    have hmn:((n:Int) == 0)=false:=beq_eq_false_iff_ne.2 (by omega)
    clear hR hX hmx
    generalize (f+j) % n=q at*
    have hq':(q:Int) < (n:Int):=by omega
    have hwq:IntKind.i64.wrap (q:Int)=(q:Int):=z5A (by omega) (by omega)
    have hgw:=hrr.1
    have hdd1:Dice wr.drew b sv code dd:=hdd.drewN 1
    have hbA:=fun w h=>zf5 b sv code dd w h
    have hl1:=za4 dd
    generalize (blankP dd).1=u1 at*
    generalize (blankP dd).2=e1 at*
    have hbB:=fun w h=>zf5 b sv code e1 w h
    have hl2:=za4 e1
    generalize (blankP e1).1=u2 at*
    generalize (blankP e1).2=e2 at*
    obtain ⟨t1,ht1,ht1l⟩:∃ t1:List UInt8,Hid (t1=if j=0 then t else t++[44])∧t1.length≤4+1005*j:=by
     refine ⟨_,rfl,?_⟩
     split
     · omega
     · simp;omega
    have hE:Hid (zYs ms f m (j+1) (t1++u1++x++u2) e2=(T1,T2)):=by rw [ht1.out];exact hS
    clear hS
    go_upto_if 22 with fail
    go_cut [6] (fun a wx=>a=.string ⟨t1.toArray⟩∧wr=wx)
    case first=>
     by_cases hj0:j=0
     · have hj0':¬ (0:Int) < (j:Int):=by omega
       rw [if_pos hj0] at ht1
       have ht2:=ht1.out
       subst ht2
       clear hj0 ht1
       go_wp2_with fail
       go_meet
       exact ⟨rfl,rfl⟩
     · have hj0':(0:Int) < (j:Int):=by omega
       rw [if_neg hj0] at ht1
       have ht2:=ht1.out
       subst ht2
       clear hj0 ht1
       go_wp2_with fail
       go_meet
       exact ⟨by rw [←zAs],rfl⟩
    case rest=>
     obtain ⟨rfl,rfl⟩:=hcut
     clear ht1 htl
     go_wp2
     go_region_held (fun w'=>w'.cell? ⟨g,q,none⟩=some (.string ⟨x.toArray⟩)) (go_keep) (first
      | (go_at_call 52;refine (hbB _ hdA).mono ?_;rintro e w4 ⟨rfl,hdB,hkB⟩;have hcB:=(hkB.cell (p:=⟨g,q,none⟩) hgA (by simp;omega)).trans hcA)
      | (go_at_call 52;refine (hbA _ hdd1).mono ?_;rintro e w3 ⟨rfl,hdA,hkA⟩;have hcA:=(hkA.cell (p:=⟨g,q,none⟩) hgw (by simp;omega)).trans hcx;have hgA:g < w3.heap.size:=Nat.lt_of_lt_of_le hgw hkA.size))
     all_goals
      go_wp2
      simp only [zAs]
      have hk3:Kept [b] wr w4:=((Kept.refl [b] wr).drewN 1).trans ((hkA.trans (hkB.mono (by simp))).mono (by simp))
      have hr3:=hrr.kept hk3 (by simp;omega)
      generalize hTT:t1++u1++x++u2=t' at*
      have htl':t'.length≤3+1005*(j+1):=by rw [←hTT];simp;omega
      go_roundw
      case rel=>exact ⟨j+1,m,t',_,rfl,by go_num,by omega,htl',hE.out,hdB,hr3,hkk.trans (hk3.mono (by simp))⟩
      case measure=>simp [intOf];omega
  · have hin':¬ (j:Int) < (n:Int):=by omega
    have hm0:m=0:=by omega
    obtain ⟨hE1,hE2⟩:t=T1∧dd=T2:=by
     have:=hR.out
     rw [hm0,zYs] at this
     injection this with h1 h2
     exact ⟨h1,h2⟩
    subst hE1
    subst hE2
    clear hR
    go_wp2_with fail
    refine (hF _ hdd).mono ?_
    rintro e w3 ⟨rfl,hdA,hkA⟩
    go_wp2
    go_ret
    exact ⟨by simp only [←zAs];rfl,hdA,hkk.trans (hkA.mono (by simp))⟩

def small (x:Int):Prop:= -1000≤x∧x≤1000
theorem zzT (b o:Nat) (oa:Option Addr) (n cap:Nat) (w:World) (hc:w.cell? ⟨b,o,none⟩=some (.slice oa n cap)):
 Calls Tryz.prog 38 #[.pointer (some ⟨b,o,none⟩)] w fun e w'=>e=.returned (.bool (decide (0 < n)))∧w'=w:=by
 go_enter Tryz.func38,Tryz.ntmps38
 go_wp2
 go_ret
 exact ⟨by simp,rfl⟩
theorem zR0 (b o:Nat) (v:Value) (n:Int) (w:World) (hc:w.cell? ⟨b,o,none⟩=some v) (hf:w.frozen? ⟨b,o,none⟩=false) (hb:b < w.heap.size):
 Calls Tryz.prog 35 #[.pointer (some ⟨b,o,none⟩),.int .i64 n] w fun e w'=>(∃ v,e=.returned v)∧w'=(w.setCell ⟨b,o,none⟩ (.slice (some ⟨w.heap.size,0,none⟩) 1 1)).alloc (.cells #[.int .i64 n] 2):=by
 go_enter Tryz.func35,Tryz.ntmps35
 go_wp2
 go_end0
 exact ⟨⟨_,rfl⟩,rfl⟩

theorem zWG:(Tryz.prog.info? 2).map (fun i=>(i.zero,i.size,i.bytes))=some (some (.int .i64 0),1,8):=by kernel_rfl
end Go.Proofs.YtlkidmafomjhgaaGreatDoor.keep
