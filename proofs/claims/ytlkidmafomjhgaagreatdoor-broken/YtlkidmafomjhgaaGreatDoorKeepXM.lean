/- One text. -/
import Derived.Test.YtlkidmafomjhgaaGreatDoorKeepM
namespace Go.Proofs.YtlkidmafomjhgaaGreatDoor.keep
open Go.RowKit

theorem MIX.init (al:Bool) (w1 w2:World) (i most b:Nat) (sv:Value) (code:List Int) (hd:Dice w1 b sv code code) (v0:Value) (TS:List Nat) (hth:ThX w2 TS v0 (zbw i) (zbw i).length) (hTS:∀ x∈TS,w1.heap.size < x∧x < w2.heap.size)
 (hwb:w2.heap[w1.heap.size]?=some (.cells #[.string ⟨(modS i).toArray⟩,v0,.slice none 0 0,.slice none 0 0] 67 (0,0))) (hbl:Below w1.heap.size w1 w2) (W:World)
 (hW:W=((w2.alloc (.cells #[.string ⟨(modS i).toArray⟩,.slice none 0 0,.slice none 0 0,.slice none 0 0] 26)).alloc (.cells #[.int .i64 0,.int .i64 0,.int .i64 0,.int .i64 0,.int .i64 0,.int .i64 0,.int .i64 0,.int .i64 0,.int .i64 0] 56)).alloc (.cells (madeCells #[.int .i64 0,.int .i64 0] ((most+1)*2)) 46)):
 MIX al b w1.heap.size w2.heap.size (w2.heap.size+1) (w2.heap.size+1+1) (w2.heap.size+3) i most sv code W code [] [] [] (.slice none 0 0) (.slice none 0 0) (.slice none 0 0) (fun _=>0) #[.int .i64 0,.int .i64 0,.int .i64 0,.int .i64 0,.int .i64 0,.int .i64 0,.int .i64 0,.int .i64 0,.int .i64 0] (madeCells #[.int .i64 0,.int .i64 0] ((most+1)*2)) #[.string ⟨(modS i).toArray⟩,v0,.slice none 0 0,.slice none 0 0] (fun _=>(0,0)) (fun k=>if k=0 then TS else []) (fun k=>if k=0 then zbw i else []) []∧Below w1.heap.size w1 W:=by
 have hk:Below w2.heap.size w2 W:=by subst hW;exact (((Below.refl _ _).alloc (Nat.le_refl _) _).alloc (by simp) _).alloc (by simp;omega) _
 have hz:W.heap.size=w2.heap.size+3:=by subst hW;simp
 have hsz:=hbl.size
 have hb1:W.heap[w2.heap.size]?=some (.cells #[.string ⟨(modS i).toArray⟩,.slice none 0 0,.slice none 0 0,.slice none 0 0] 26 (0,0)):=by
  subst hW;rw [zD1 _ _ _ (by simp;omega),zD1 _ _ _ (by simp)];exact ziF _ _ _ rfl
 have hb2:W.heap[w2.heap.size+1]?=some (.cells #[.int .i64 0,.int .i64 0,.int .i64 0,.int .i64 0,.int .i64 0,.int .i64 0,.int .i64 0,.int .i64 0,.int .i64 0] 56 (0,0)):=by
  subst hW;rw [zD1 _ _ _ (by simp)];exact ziF _ _ _ (by simp)
 have hb3:W.heap[w2.heap.size+1+1]?=some (.cells (madeCells #[.int .i64 0,.int .i64 0] ((most+1)*2)) 46 (0,0)):=by
  subst hW;exact ziF _ _ _ (by simp)
 clear hW
 refine ⟨⟨(hd.below hbl).below hk,⟨hb1,World.ownsRow_nil _ _ _ _,World.ownsRow_nil _ _ _ _,World.ownsRow_nil _ _ _ _⟩,⟨rfl,fun j o h=>by simp at h⟩,.nil,Nat.zero_le _,hb2,?_,hb3,?_,(hk.block _ (zCqB hwb)).trans hwb,?_,?_,by omega⟩,hbl.trans (hk.mono hsz)⟩
 · intro h hh
   have hs:Seat i [] (fun _=>(0,0)) ((h:Int) - 1) 0 0 0:=.idle _ _ (by simp)
   obtain rfl | rfl | rfl:h=0∨h=1∨h=2:=by omega
   all_goals exact ⟨0,0,rfl,rfl,rfl,hs,fun h=>absurd rfl h⟩
 · intro j hj
   exact ⟨zcd _ _ (by omega),zcd _ _ (by omega)⟩
 · intro k hk3
   have hm0:mM most ([]:List (List UInt8)).length (fun _=>0)=3*most:=by unfold mM stF;simp
   obtain rfl | rfl | rfl:k=0∨k=1∨k=2:=by omega
   · have ho:(zbw i).length≤1∧(i=0→1≤(zbw i).length):=by unfold zbw;split <;> simp_all
     exact ⟨v0,rfl,hth.keep (Kept.of_below (S:=[]) hk) (by simp),fun e _=>ho.2 e,by show (zbw i).length+_≤_;omega⟩
   · exact ⟨.slice none 0 0,rfl,Or.inl ⟨rfl,rfl,rfl⟩,fun _ h=>absurd h (by omega),by show 0+_≤_;omega⟩
   · exact ⟨.slice none 0 0,rfl,Or.inl ⟨rfl,rfl,rfl⟩,fun _ h=>absurd h (by omega),by show 0+_≤_;omega⟩
 · intro k hk3 x hx
   by_cases e:k=0
   · rw [if_pos e] at hx
     have:=hTS x hx
     exact ⟨by omega,by omega,by omega,by omega,by omega,by simp [Value.ownBlock],by simp [Value.ownBlock],by simp [Value.ownBlock],fun k' _ h=>by rw [if_neg (by omega)];simp⟩
   · rw [if_neg e] at hx;simp at hx

def zGX (al:Bool) (i most:Nat) (w:World) (e:Ending) (w':World):Prop:=∃ vo vl ops lines base vk keys ls dn,e=.returned (.agg #[.string ⟨(modS i).toArray⟩,vo,vl,vk])∧Lives al i ops lines keys ls dn∧lines.length≤most∧
 w'.ownsRow base 48 10 vo ops.length (opsRow ops)∧w'.ownsRow base 9 1 vl lines.length (strCells lines)∧w.heap.size < base∧Below w.heap.size w w'∧KL i keys ops∧w'.ownsRow base 3 1 vk keys.length (zXD keys)
set_option maxHeartbeats 40000000 in
set_option maxRecDepth 100000 in
theorem z90 (al:Bool) (i:Nat) (hi:i < 5) (sv:Value) (code:List Int) (most:Nat) (hm:most≤400) (w:World)
 (hrow:∃ oa cap,sv=.slice oa code.length cap∧(code≠[]→∃ g off,oa=some ⟨g,off,none⟩∧g < w.heap.size∧∀ j x,code[j]?=some x→w.cell? ⟨g,off+j,none⟩=some (.int .i64 x))) (hlen:code.length≤9223372036854775807) (hwf:∀ x∈code,zRK x):
 Calls Tryz.prog 7 #[.string ⟨(modS i).toArray⟩,sv,.int .i64 (most:Int),.bool al] w fun e w'=>zGX al i most w e w':=by
 obtain ⟨oa,cap,rfl,hcells⟩:=hrow
 have ho:=fun W=>z0S i hi W
 obtain ⟨W1,hW1,hb1,hT1,hD1⟩:∃ W1,(w.alloc (.cells #[.string ⟨#[]⟩,.slice none 0 0,.slice none 0 0,.slice none 0 0] 26)).alloc (.cells #[.slice oa code.length cap,.int .i64 0] 35)=W1∧Below w.heap.size w W1∧W1.heap[w.heap.size]?=some (.cells #[.string ⟨#[]⟩,.slice none 0 0,.slice none 0 0,.slice none 0 0] 26 (0,0))∧W1.heap[w.heap.size+1]?=some (.cells #[.slice oa code.length cap,.int .i64 0] 35 (0,0)):=by
  refine ⟨_,rfl,((Below.refl _ _).alloc (Nat.le_refl _) _).alloc (by simp) _,?_,?_⟩
  · rw [zD1 _ _ _ (by simp)];exact ziF _ _ _ rfl
  · exact ziF _ _ _ (by simp)
 have hDice:Dice W1 (w.heap.size+1) (.slice oa code.length cap) code code:=by
  refine ⟨⟨0,by omega,rfl,hD1⟩,⟨oa,cap,rfl,fun hne=>?_⟩,hlen,hwf⟩
  obtain ⟨g,off,e,hg,hc⟩:=hcells hne
  exact ⟨g,off,e,by omega,fun j x hj=>(hb1.cell (p:=⟨g,off+j,none⟩) hg).trans (hc j x hj)⟩
 have hs1:W1.heap.size=w.heap.size+2:=by rw [←hW1];simp
 have hmk:=zeM most (by omega)
 go_enter Tryz.func7,Tryz.ntmps7
 go_wp2_with fail
 refine (ho _).mono ?_
 rintro e w2 ⟨v0,TS,rfl,hth,hTS,hwb,hbl⟩
 go_wp2_with fail
 obtain ⟨W,hW⟩:∃ W,W=((w2.alloc (.cells #[.string ⟨(modS i).toArray⟩,.slice none 0 0,.slice none 0 0,.slice none 0 0] 26)).alloc (.cells #[.int .i64 0,.int .i64 0,.int .i64 0,.int .i64 0,.int .i64 0,.int .i64 0,.int .i64 0,.int .i64 0,.int .i64 0] 56)).alloc (.cells (madeCells #[.int .i64 0,.int .i64 0] ((most+1)*2)) 46):=⟨_,rfl⟩
 rw [←hW]
 obtain ⟨hMI,hBW⟩:=MIX.init al W1 w2 i most (w.heap.size+1) _ code hDice v0 TS hth hTS hwb hbl W hW
 have hR0:=(hBW.block w.heap.size (zCqB hT1)).trans hT1
 have hBw:Below w.heap.size w W:=hb1.trans (hBW.mono (by omega))
 have hB:BO (w.heap.size+1) W1.heap.size w2.heap.size (w2.heap.size+1) (w2.heap.size+1+1) (w2.heap.size+3):=⟨by omega,by have:=hbl.size;have:=zCqB hwb;omega,by omega,by omega,by omega⟩
 rw [hs1] at hMI hB
 clear hW hb1 hT1 hD1 hW1 hDice hmk ho hcells hth hTS hwb hbl hBW hs1 hlen hwf
 generalize hrb:w.heap.size=rb at*
 generalize hbb:rb+1=b at*
 generalize hwbb:rb+2=wb at*
 generalize w2.heap.size=tb at*
 generalize tb+3=base at*
 generalize hgbb:tb+1+1=gb at*
 generalize hcbb:tb+1=cb at*
 have HO:Hid (rb+1=b∧rb+2=wb∧tb+1=cb∧cb+1=gb∧w.heap.size=rb):=⟨hbb,hwbb,hcbb,hgbb,hrb⟩
 clear hbb hwbb hcbb hgbb hrb
 go_loopg [14] (3*most) (fun g s14 wr=>∃ (hw:Nat) (d:List Int) (ops:List OpV) (lines:List (List UInt8)) (keys:List Nat) (vo vl vk:Value) (st:Nat→Int) (cc gc wa:Array Value) (gv:Nat→Int×Int) (T:Nat→List Nat) (ls:Nat→List Int) (dn:List (Nat×Int×Int)),s14=.int .i64 (hw:Int)∧g=mM most lines.length st∧
  MIX al b wb tb cb gb base i most (.slice oa code.length cap) code wr d ops lines keys vo vl vk st cc gc wa gv T ls dn∧Below b W wr∧hw < 3∧(al=true→∀ h',h' < 3→h'≠hw→st h'=0))
 case atStart=>exact ⟨0,_,_,_,_,_,_,_,_,_,_,_,_,_,_,_,rfl,by unfold mM stF;simp,hMI,Below.refl _ _,by omega,fun _ _ _ _=>rfl⟩
 case round=>
  obtain ⟨hw,d,ops,lines,keys,vo,vl,vk,st,cc,gc,wa,gv,T,ls,dn,rfl,hg,m,hBl,hw3,hal⟩:=hrel
  have HA:Hid (al=true→∀ h',h' < 3→h'≠hw→st h'=0):=hal
  clear hal
  obtain ⟨kd,hkd,-,hdb⟩:=m.dice.blk
  obtain ⟨lo,lc,rfl⟩:=zIW m.tale.lines
  obtain ⟨oo,oc,rfl⟩:=zIW m.tale.ops
  have c0:wr.cell? ⟨b,0,none⟩=some (.slice oa code.length cap):=by rw [zBk hdb];rfl
  have c1:wr.cell? ⟨b,1,none⟩=some (.int .i64 (kd:Int)):=by rw [zBk hdb];rfl
  have t2:wr.cell? ⟨tb,2,none⟩=some (.slice lo lines.length lc):=by rw [zBk m.tale.blk];rfl
  have HG:Hid (gk=mM most lines.length st):=hg
  clear hg hdb hkd
  by_cases h1:(kd:Int) < (code.length:Int)
  · by_cases h2:(lines.length:Int) < (most:Int)
    · go_wp2_with fail
      go_cut [42] (fun a wx=>a=.bool true∧wx=wr.drew)
      case first=>
       go_region
       all_goals
        go_wp2_with fail
        go_meet
        exact ⟨rfl,rfl⟩
      case rest=>
       obtain ⟨rfl,rfl⟩:=hcut
       clear c0 c1 t2
       have hdr:Dice wr.drew b (.slice oa code.length cap) code d:=m.dice.below ((Below.refl _ _).drew)
       obtain ⟨op0,key0,f1,-,-,-,-⟩:=m.seats hw hw3
       have s00:wr.cell? ⟨cb,hw*3,none⟩=some (.int .i64 (st hw)):=by rw [zBk m.cblk,Nat.mul_comm];exact f1
       have hw3':(hw:Int) < 3:=by omega
       clear f1
       go_upto_region 8 with fail
       go_cut [51] (fun a wx=>a=.bool (!al||st hw == 0)∧wx=wr.drew)
       case first=>
        cases al
        · go_wp2_with fail
          go_meet
          exact ⟨rfl,rfl⟩
        · go_wp2_with fail
          go_meet
          exact ⟨by simp,rfl⟩
       case rest=>
       obtain ⟨rfl,rfl⟩:=hcut
       clear s00 hw3'
       obtain ⟨cb0,hcb0⟩:∃ cb0,(!al||st hw == 0)=cb0:=⟨_,rfl⟩
       rw [hcb0]
       have HCB:Hid ((!al||st hw == 0)=cb0):=hcb0
       clear hcb0
       go_upto_if 51 with fail
       go_cut [14] (fun a wx=>∃ (h:Nat) (d3:List Int),a=.int .i64 (h:Int)∧h < 3∧MIX al b wb tb cb gb base i most (.slice oa code.length cap) code wx d3 ops lines keys (.slice oo ops.length oc) (.slice lo lines.length lc) vk st cc gc wa gv T ls dn∧Below b W wx∧(al=true→∀ h',h' < 3→h'≠h→st h'=0))
       case first=>
        cases cb0
        · go_wp2_with fail
          go_meet
          exact ⟨hw,d,rfl,hw3,m.next hB hdr ((Kept.refl [b] wr).drew),hBl.trans (((Kept.refl [b] wr).drew).below (Nat.le_of_lt m.dice.lt) (by simp)),HA.out⟩
        · go_wp2_with fail
          refine (next_any b 3 _ code d wr.drew hdr (by omega)).mono ?_
          rintro e w3 ⟨rfl,hd3,hk3⟩
          have hh:=zKB (n:=3) (by omega) d
          have hk3':Kept [b] wr w3:=((Kept.refl [b] wr).drew).trans hk3
          have m3:=m.next hB hd3 hk3'
          have hBl3:Below b W w3:=hBl.trans (hk3'.below (Nat.le_of_lt m.dice.lt) (by simp))
          have hA3:Hid (al=true→∀ h',h' < 3→h'≠(z1S 3 d).1→st h'=0):=by
           intro ha h' hh' _
           by_cases e:h'=hw
           · have:=HCB.out
             rw [ha] at this
             rw [e]
             simpa using this
           · exact HA.out ha h' hh' e
          generalize (z1S 3 d).1=h at*
          generalize (z1S 3 d).2=d3 at*
          clear m hd3 hk3 hk3' hdr hBl
          go_wp2_with fail
          go_meet
          exact ⟨h,d3,rfl,hh,m3,hBl3,hA3.out⟩
       case rest=>
       clear HA HCB
       obtain ⟨h,d3,rfl,hh,m3,hBl3,hal3⟩:=hcut
       have HA:Hid (al=true→∀ h',h' < 3→h'≠h→st h'=0):=hal3
       clear hal3 m hdr hBl
       obtain ⟨w3,rfl⟩:∃ w3:World,w3=wc:=⟨_,rfl⟩
       obtain ⟨op,key,e1,e2,e3,hs,-⟩:=m3.seats h hh
       have s0:w3.cell? ⟨cb,h*3,none⟩=some (.int .i64 (st h)):=by rw [zBk m3.cblk,Nat.mul_comm];exact e1
       have hh':(h:Int) < 3:=by omega
       have E123:Hid (cc[3*h]?=some (.int .i64 (st h))∧cc[3*h+1]?=some (.int .i64 op)∧cc[3*h+2]?=some (.int .i64 key)):=⟨e1,e2,e3⟩
       clear e1 e2 e3
       obtain ⟨hO1,hO2,hO3,hO4,hO5⟩:=hB
       have hbs3:=m3.bs
       have hol:ops.length≤lines.length:=m3.tl.tells.len
       have hll:=m3.ll
       have hkl:=m3.kl.1
       rcases hs.three with hst | ⟨j,kk,k,o,rfl,rfl,hj,hoc,hor,hk,hn,ha,hkk,hz,hu,hst⟩
       · have HS:Hid (st h=0):=hst
         rw [hst] at s0
         clear hst
         have hC:Client w3 cb (h*3) cc cc 0 op key:=by
          obtain ⟨e1,e2,e3⟩:=E123.out
          rw [Nat.mul_comm h 3]
          exact ⟨m3.cblk,by rw [←HS.out];exact e1,e2,e3,Apart.refl _ _⟩
         have hST:=zZn b tb cb (h*3) base i hi _ code d3 ops lines keys _ _ _ 0 op key cc cc ((h:Int) - 1) w3 m3.dice m3.tale hC ⟨by omega,by omega⟩ (by omega) (by omega) (by omega) ⟨by omega,by omega,by omega,by omega,by omega,by omega,by omega⟩
         go_wp2_with fail
         refine hST.mono ?_
         rintro e w4 ⟨rfl,hd4,⟨vo',vl',vk',ht4,N1,N2,N3⟩,⟨cc',hc4⟩,hk4⟩
         rw [Nat.mul_comm h 3] at hc4
         have m4:=m3.start ⟨hO1,hO2,hO3,hO4,hO5⟩ h hh HS.out HA.out (by omega) hd4 ht4 N1 N2 N3 hc4 hk4
         have hBl4:Below b W w4:=hBl3.trans (hk4.below (by omega) (fun x hx=>by
          rcases List.mem_append.1 hx with hx | hx
          · simp only [List.mem_cons,List.not_mem_nil,or_false] at hx;omega
          · rcases List.mem_append.1 hx with hx | hx
            · have:=m3.tale.lines.lt x (by simpa using hx);omega
            · rcases List.mem_append.1 hx with hx | hx
              · have:=m3.tale.ops.lt x (by simpa using hx);omega
              · have:=m3.tale.keys.lt x (by simpa using hx);omega))
         have hMM:Hid (mM most (lines.length+1) (upd st h 1) < mM most lines.length st):=by
          have a1:=z3v most (lines.length+1) st h hh 1
          have a2:=zeF most lines.length st (by omega)
          have s0':stF (st h)=0:=by rw [HS.out];rfl
          have s1':stF 1=2:=rfl
          show _ < _
          omega
         clear hST hC hd4 ht4 hc4 hk4 m3 s0 hBl3 N1 N2 N3
         go_wp2_with fail
         go_roundg (mM most (lines.length+1) (upd st h 1))
         case measure=>rw [HG.out];exact hMM.out
         case rel=>exact ⟨h,_,_,_,_,_,_,_,_,_,_,_,_,_,_,_,rfl,by simp,m4,hBl4,hh,fun e h' a c=>by rw [zkf _ _ c];exact HA.out e h' a c⟩
       · obtain ⟨hjl,hoj⟩:=List.getElem?_eq_some_iff.1 hj
         obtain ⟨g,hoo,hcap,hgb,hgw⟩:∃ g,oo=some ⟨g,0,none⟩∧ops.length≤oc∧base≤g∧g < w3.heap.size:=by
          rcases zzD m3.tale.ops with ⟨_,h0⟩ | ⟨g,cap,h1,h2,h3,h4⟩
          · omega
          · injection h1 with ha _ hc;exact ⟨g,ha,by omega,h3,h4⟩
         subst hoo
         have t1:w3.cell? ⟨tb,1,none⟩=some (.slice (some ⟨g,0,none⟩) ops.length oc):=by rw [zBk m3.tale.blk];rfl
         have s1:w3.cell? ⟨cb,h*3+1,none⟩=some (.int .i64 (j:Int)):=by rw [zBk m3.cblk,Nat.mul_comm];exact E123.out.2.1
         have s2:w3.cell? ⟨cb,h*3+2,none⟩=some (.int .i64 (kk:Int)):=by rw [zBk m3.cblk,Nat.mul_comm];exact E123.out.2.2
         have hcell:∀ c u,c < 10→(opvCells o)[c]?=some u→w3.cell? ⟨g,j*10+c,none⟩=some u:=fun c u hc hu=>zDA m3.tale.ops _ _ ((zvc ops j hjl c hc).trans (by rw [hoj];exact hu))
         have hji:(j:Int) < (ops.length:Int):=by omega
         have hjm:(j:Int) < (most:Int)+1:=by omega
         obtain ⟨id,ocl,onm,okey,oarg,oexp,ocall,oret,ovk,ovn⟩:=o
         dsimp only at hoc hor hn ha
         subst hn
         subst hor
         have q0:w3.cell? ⟨g,j*10,none⟩=some (.int .i64 id):=hcell 0 _ (by omega) rfl
         have q1:=hcell 1 _ (by omega) rfl
         have q2:=hcell 2 _ (by omega) rfl
         have q3:=hcell 3 _ (by omega) rfl
         have q4:=hcell 4 _ (by omega) rfl
         have q5:=hcell 5 _ (by omega) rfl
         have q6:=hcell 6 _ (by omega) rfl
         have q7:=hcell 7 _ (by omega) rfl
         have q8:=hcell 8 _ (by omega) rfl
         have q9:=hcell 9 _ (by omega) rfl
         dsimp only at q1 q2 q3 q4 q5 q6 q7 q8 q9
         have HJ:Hid (ops[j]?=some ⟨id,ocl,opS i k,okey,oarg,oexp,ocall,0,ovk,ovn⟩∧ocl=(h:Int) - 1∧∀ j' o',ops[j']?=some o'→o'.cl=(h:Int) - 1→o'.ret=0→j'=j):=⟨hj,hoc,hu⟩
         clear hj hoc hu hcell hoj
         rcases hst with hst | ⟨hst,hok⟩
         · have HS:Hid (st h=1):=hst
           rw [hst] at s0
           clear hst
           have m3d:=m3.next ⟨hO1,hO2,hO3,hO4,hO5⟩ (m3.dice.below ((Below.refl _ _).drew)) (Kept.refl [b] w3).drew
           obtain ⟨vv,wv,hrow1,hreg1,hbd1⟩:=m3d.things kk hkk
           have hTh:AtX w3.drew wb (1+kk) (T kk) wa (ls kk) (ls kk).length:=⟨m3d.wblk,⟨vv,wv,hrow1⟩,fun hm=>by have:=m3d.ts kk hkk wb hm;omega⟩
           have hDo:Calls Tryz.prog 26 #[.pointer (some ⟨wb,1+kk,none⟩),.agg #[.int .i64 id,.int .i64 ocl,.string ⟨(opS i k).toArray⟩,.string ⟨okey.toArray⟩,.int .i64 oarg,.int .i64 oexp,.int .i64 ocall,.int .i64 0,.int .i64 ovk,.int .i64 ovn]] w3.drew fun e w'=>zef wb (1+kk) (T kk) wa (effP i k ocl oarg oexp (ls kk)) w3.drew e w':=
            do_x i k hi hk wb (1+kk) (ls kk) _ (T kk) wa id ocl okey oarg oexp ocall 0 ovk ovn w3.drew hTh (fun x hx=>(m3d.ts kk hkk x hx).1) (by omega) (by
             unfold loN;split
             · rename_i e;exact hreg1 e (hz e)
             · omega) ha (by have:=HJ.out.2.1;exact ⟨by omega,by omega⟩)
           have hgT:g∉[wb]++T kk:=fun hm=>by
            rcases List.mem_append.1 hm with hm | hm
            · simp at hm;omega
            · exact (m3.ts kk hkk g hm).2.2.2.2.2.1 rfl
           have hlow:∀ x,(x=tb∨x=cb∨x=gb)→x∉[wb]++T kk:=fun x hx hm=>by
            rcases List.mem_append.1 hm with hm | hm
            · simp at hm;omega
            · have:=m3.ts kk hkk x hm;omega
           have hjmost:j≤most:=by omega
           have hgl:gb < w3.drew.heap.size:=zCqB m3d.gblk
           have htl:tb < w3.drew.heap.size:=zCqB m3d.tale.blk
           have hcl3:cb < w3.drew.heap.size:=zCqB m3d.cblk
           have hgd:g < w3.drew.heap.size:=hgw
           have hkk':(kk:Int) < 3:=by omega
           have GC:Hid (gc[j*2]?=some (.int .i64 (gv j).1)∧gc[j*2+1]?=some (.int .i64 (gv j).2)):=by have:=m3.gcell j hjmost;rw [Nat.mul_comm 2 j] at this;exact this
           have nt:tb≠gb:=by omega
           have nc:cb≠gb:=by omega
           have ng:g≠gb:=by omega
           clear hrow1 hreg1 wv hTh
           obtain ⟨X1,X2,hX⟩:∃ X1 X2,effP i k ocl oarg oexp (ls kk)=(X1,X2):=⟨_,_,rfl⟩
           rw [hX] at hDo
           have HX:Hid (effP i k ocl oarg oexp (ls kk)=(X1,X2)):=hX
           clear hX
           obtain ⟨xk,xn⟩:=X2
           go_wp2_with fail
           go_cut [136] (fun a wx=>∃ (w1:World),zef wb (1+kk) (T kk) wa (X1,xk,xn) w3.drew (.returned (.agg #[.int .i64 xk,.int .i64 xn])) w1∧wx=(w1.setCell ⟨gb,j*2,none⟩ (.int .i64 xk)).setCell ⟨gb,j*2+1,none⟩ (.int .i64 xn))
           case first=>
            go_region_held3 (fun w'=>w'.cell? ⟨tb,1,none⟩=some (.slice (some ⟨g,0,none⟩) ops.length oc)∧w'.cell? ⟨cb,h*3+1,none⟩=some (.int .i64 (j:Int))∧w'.cell? ⟨cb,h*3+2,none⟩=some (.int .i64 (kk:Int))∧w'.cell? ⟨g,j*10,none⟩=some (.int .i64 id)∧w'.cell? ⟨g,j*10+1,none⟩=some (.int .i64 ocl)∧w'.cell? ⟨g,j*10+2,none⟩=some (.string ⟨(opS i k).toArray⟩)∧w'.cell? ⟨g,j*10+3,none⟩=some (.string ⟨okey.toArray⟩)∧w'.cell? ⟨g,j*10+4,none⟩=some (.int .i64 oarg)∧w'.cell? ⟨g,j*10+5,none⟩=some (.int .i64 oexp)∧w'.cell? ⟨g,j*10+6,none⟩=some (.int .i64 ocall)∧w'.cell? ⟨g,j*10+7,none⟩=some (.int .i64 0)∧w'.cell? ⟨g,j*10+8,none⟩=some (.int .i64 ovk)∧w'.cell? ⟨g,j*10+9,none⟩=some (.int .i64 ovn)) (first | exact ⟨(hset.out ⟨tb,1,none⟩ nt).trans y1,(hset.out ⟨cb,h*3+1,none⟩ nc).trans y2,(hset.out ⟨cb,h*3+2,none⟩ nc).trans y3,(hset.out ⟨g,j*10,none⟩ ng).trans z0,(hset.out ⟨g,j*10+1,none⟩ ng).trans z1,(hset.out ⟨g,j*10+2,none⟩ ng).trans z2,(hset.out ⟨g,j*10+3,none⟩ ng).trans z3,(hset.out ⟨g,j*10+4,none⟩ ng).trans z4,(hset.out ⟨g,j*10+5,none⟩ ng).trans z5,(hset.out ⟨g,j*10+6,none⟩ ng).trans z6,(hset.out ⟨g,j*10+7,none⟩ ng).trans z7,(hset.out ⟨g,j*10+8,none⟩ ng).trans z8,(hset.out ⟨g,j*10+9,none⟩ ng).trans z9⟩ | go_keep) (first
             | (go_at_call 26;refine hDo.mono ?_;rintro e w5 ⟨v',TS',rfl,hpost⟩;have hK5:=hpost.2.2.2.2;have y1:=(hK5.cell (p:=⟨tb,1,none⟩) htl (hlow tb (Or.inl rfl))).trans t1;have y2:=(hK5.cell (p:=⟨cb,h*3+1,none⟩) hcl3 (hlow cb (Or.inr (Or.inl rfl)))).trans s1;have y3:=(hK5.cell (p:=⟨cb,h*3+2,none⟩) hcl3 (hlow cb (Or.inr (Or.inl rfl)))).trans s2;have z0:=(hK5.cell (p:=⟨g,j*10,none⟩) hgd hgT).trans q0;have z1:=(hK5.cell (p:=⟨g,j*10+1,none⟩) hgd hgT).trans q1;have z2:=(hK5.cell (p:=⟨g,j*10+2,none⟩) hgd hgT).trans q2;have z3:=(hK5.cell (p:=⟨g,j*10+3,none⟩) hgd hgT).trans q3;have z4:=(hK5.cell (p:=⟨g,j*10+4,none⟩) hgd hgT).trans q4;have z5:=(hK5.cell (p:=⟨g,j*10+5,none⟩) hgd hgT).trans q5;have z6:=(hK5.cell (p:=⟨g,j*10+6,none⟩) hgd hgT).trans q6;have z7:=(hK5.cell (p:=⟨g,j*10+7,none⟩) hgd hgT).trans q7;have z8:=(hK5.cell (p:=⟨g,j*10+8,none⟩) hgd hgT).trans q8;have z9:=(hK5.cell (p:=⟨g,j*10+9,none⟩) hgd hgT).trans q9;have hG5:=(hK5.block gb hgl (hlow gb (Or.inr (Or.inr rfl)))).trans m3d.gblk;have v0:=(zBk hG5 (j*2)).trans GC.out.1;have v1:=(zBk hG5 (j*2+1)).trans GC.out.2;have f0:w5.frozen? ⟨gb,j*2,none⟩=false:=zBn hG5 _;have f1:w5.frozen? ⟨gb,j*2+1,none⟩=false:=zBn hG5 _;have hset:Hid (∀ p:Addr,p.block≠gb→((w5.setCell ⟨gb,j*2,none⟩ (.int .i64 xk)).setCell ⟨gb,j*2+1,none⟩ (.int .i64 xn)).cell? p=w5.cell? p):=ztN w5 gb (j*2) (j*2+1) _ _))
            all_goals
             go_wp2_with fail
             go_meet
             exact ⟨w5,⟨v',TS',rfl,hpost⟩,rfl⟩
           case rest=>
            obtain ⟨w1,⟨v',TS',-,hsub,hnew,hwb,hrow,hstep⟩,rfl⟩:=hcut
            have hK1:=hstep
            have hC1:=(hK1.block cb hcl3 (hlow cb (Or.inr (Or.inl rfl)))).trans m3d.cblk
            have hG1:=(hK1.block gb hgl (hlow gb (Or.inr (Or.inr rfl)))).trans m3d.gblk
            have x0:w1.cell? ⟨cb,h*3,none⟩=some (.int .i64 1):=by rw [zBk hC1,Nat.mul_comm,←HS.out];exact E123.out.1
            have xf:w1.frozen? ⟨cb,h*3,none⟩=false:=zBn hC1 _
            have hcg:cb≠gb:=by omega
            have hz1:=hK1.size
            have hkp:Kept [gb,cb] w1 (((w1.setCell ⟨gb,j*2,none⟩ (.int .i64 xk)).setCell ⟨gb,j*2+1,none⟩ (.int .i64 xn)).setCell ⟨cb,h*3,none⟩ (.int .i64 2)):=(((Kept.refl _ _).setCell (p:=⟨gb,j*2,none⟩) (Or.inl (by simp)) _).setCell (p:=⟨gb,j*2+1,none⟩) (Or.inl (by simp)) _).setCell (p:=⟨cb,h*3,none⟩) (Or.inl (by simp)) _
            have m6:=m3d.did ⟨hO1,hO2,hO3,hO4,hO5⟩ h hh HS.out j kk k _ E123.out.2.1 E123.out.2.2 HJ.out.1 HJ.out.2.1 rfl hk rfl ha hkk hz HJ.out.2.2 hi (xk:=xk) (xn:=xn) (by rw [HX.out]) hnew hwb (by rw [HX.out];exact hrow) hstep hkp
             (by rw [zRA (by show gb≠cb;omega),zFg (zFg hG1 _ _),Nat.mul_comm j 2])
             (by rw [zFg (c:=cc) (by rw [zRA (by show cb≠gb;omega),zRA (by show cb≠gb;omega)];exact hC1),Nat.mul_comm h 3])
            have hBl6:Below b W (((w1.setCell ⟨gb,j*2,none⟩ (.int .i64 xk)).setCell ⟨gb,j*2+1,none⟩ (.int .i64 xn)).setCell ⟨cb,h*3,none⟩ (.int .i64 2)):=((hBl3.drew).trans (hK1.below (by show b≤w3.heap.size;omega) (fun x hx=>by
             rcases List.mem_append.1 hx with hx | hx
             · simp at hx;omega
             · have:=m3.ts kk hkk x hx;omega))).trans (hkp.below (by have:w3.heap.size≤w1.heap.size:=hz1;omega) (by simp;omega))
            have hMM:Hid (mM most lines.length (upd st h 2) < mM most lines.length st):=by
             have a1:=z3v most lines.length st h hh 2
             have s0':stF (st h)=2:=by rw [HS.out];rfl
             have s1':stF 2=1:=rfl
             show _ < _
             omega
            clear hkp hsub hnew hwb hrow hstep hK1 hC1 hG1 hDo m3 m3d hbd1 t1 s1 s2 q0 q1 q2 q3 q4 q5 q6 q7 q8 q9 s0 hBl3
            go_wp2_with fail
            go_roundg (mM most lines.length (upd st h 2))
            case measure=>rw [HG.out];exact hMM.out
            case rel=>exact ⟨h,_,_,_,_,_,_,_,_,_,_,_,_,_,_,_,rfl,rfl,m6,hBl6,hh,fun e h' a c=>by rw [zkf _ _ c];exact HA.out e h' a c⟩
         · have HS:Hid (st h=2):=hst
           rw [hst] at s0
           clear hst
           have hok:Hid (zxk i k (gv j).1 (gv j).2):=hok
           have hval:Hid (zWP (gv j).1 (gv j).2):=zy9 hok.out
           have hjmost:j≤most:=by omega
           have v0:w3.cell? ⟨gb,j*2,none⟩=some (.int .i64 (gv j).1):=by have:=(m3.gcell j hjmost).1;rw [Nat.mul_comm 2 j] at this;exact (zBk m3.gblk _).trans this
           have v1:w3.cell? ⟨gb,j*2+1,none⟩=some (.int .i64 (gv j).2):=by have:=(m3.gcell j hjmost).2;rw [Nat.mul_comm 2 j] at this;exact (zBk m3.gblk _).trans this
           have HX:Hid ((gv j).1=(gv j).1):=rfl
           obtain ⟨xk,hxk⟩:∃ xk,xk=(gv j).1:=⟨_,rfl⟩
           obtain ⟨xn,hxn⟩:∃ xn,xn=(gv j).2:=⟨_,rfl⟩
           rw [←hxk] at v0
           rw [←hxn] at v1
           have HXK:Hid (xk=(gv j).1∧xn=(gv j).2):=⟨hxk,hxn⟩
           clear hxk hxn HX
           obtain ⟨cur,hgblk⟩:∃ cur,w3.heap[g]?=some (.cells cur 48 (0,0)):=by
            rcases m3.tale.ops.2 with ⟨h1,_⟩ | ⟨g',cap',cur,h1,_,hg,_⟩
            · cases h1
            · simp at h1;rw [h1.1];exact ⟨cur,hg⟩
           have f7:w3.frozen? ⟨g,j*10+7,none⟩=false:=zBn hgblk _
           have f8:w3.frozen? ⟨g,j*10+8,none⟩=false:=zBn hgblk _
           have f9:w3.frozen? ⟨g,j*10+9,none⟩=false:=zBn hgblk _
           have nt:tb≠g:=by omega
           have nc:cb≠g:=by omega
           have ng:gb≠g:=by omega
           have t2:w3.cell? ⟨tb,2,none⟩=some (.slice lo lines.length lc):=by rw [zBk m3.tale.blk];rfl
           have hset:Hid (∀ p:Addr,p.block≠g→((w3.drew.setCell ⟨g,j*10+8,none⟩ (.int .i64 xk)).setCell ⟨g,j*10+9,none⟩ (.int .i64 xn)).cell? p=w3.cell? p):=ztN w3.drew g (j*10+8) (j*10+9) _ _
           clear hgblk
           go_wp2_with fail
           go_cut [72] (fun a wx=>wx=(w3.drew.setCell ⟨g,j*10+8,none⟩ (.int .i64 xk)).setCell ⟨g,j*10+9,none⟩ (.int .i64 xn))
           case first=>
            go_region_held3 (fun w'=>w'.cell? ⟨tb,1,none⟩=some (.slice (some ⟨g,0,none⟩) ops.length oc)∧w'.cell? ⟨cb,h*3+1,none⟩=some (.int .i64 (j:Int))∧w'.cell? ⟨gb,j*2,none⟩=some (.int .i64 xk)∧w'.cell? ⟨gb,j*2+1,none⟩=some (.int .i64 xn)) (first | exact ⟨(hset.out ⟨tb,1,none⟩ nt).trans t1,(hset.out ⟨cb,h*3+1,none⟩ nc).trans s1,(hset.out ⟨gb,j*2,none⟩ ng).trans v0,(hset.out ⟨gb,j*2+1,none⟩ ng).trans v1⟩ | go_keep) (fail)
            all_goals
             go_wp2_with fail
             go_meet
             exact rfl
           case rest=>
            have hown8:wc.ownsRow base 48 10 (.slice (some ⟨g,0,none⟩) ops.length oc) ops.length (((opsRow ops).set (j*10+8) (.int .i64 xk)).set (j*10+9) (.int .i64 xn)):=by
             have hlen:(opsRow ops).length=ops.length*10:=m3.tale.ops.1
             rw [hcut]
             exact zUj (zUj (World.ownsRow.drew m3.tale.ops) (j*10+8) _ (by omega)) (j*10+9) _ (by simp;omega)
            have hkA:Kept [g] w3 wc:=by rw [hcut];exact ((((Kept.refl _ _).drew).setCell (p:=⟨g,j*10+8,none⟩) (Or.inl (by simp)) _).setCell (p:=⟨g,j*10+9,none⟩) (Or.inl (by simp)) _)
            clear hcut hset v0 v1 q0 q1 q2 q3 q4 q5 q6 q8 q9 f7 f8 f9
            have u1:=(hkA.cell (p:=⟨tb,1,none⟩) (by show tb < w3.heap.size;omega) (by simpa using nt)).trans t1
            have u2:=(hkA.cell (p:=⟨tb,2,none⟩) (by show tb < w3.heap.size;omega) (by simpa using nt)).trans t2
            have u3:=(hkA.cell (p:=⟨cb,h*3+1,none⟩) (by show cb < w3.heap.size;omega) (by simpa using nc)).trans s1
            have u7:wc.cell? ⟨g,j*10+7,none⟩=some (.int .i64 0):=zDA hown8 _ _ (by rw [List.getElem?_set_ne (by omega),List.getElem?_set_ne (by omega),zvc ops j hjl 7 (by omega),(List.getElem?_eq_some_iff.1 HJ.out.1).2];rfl)
            obtain ⟨cur,hgblk⟩:∃ cur,wc.heap[g]?=some (.cells cur 48 (0,0)):=by
             rcases hown8.2 with ⟨h1,_⟩ | ⟨g',cap',cur,h1,_,hg,_⟩
             · cases h1
             · simp at h1;rw [h1.1];exact ⟨cur,hg⟩
            have f7:wc.frozen? ⟨g,j*10+7,none⟩=false:=zBn hgblk _
            have hset:Hid (∀ (v:Value) (p:Addr),p.block≠g→(wc.setCell ⟨g,j*10+7,none⟩ v).drew.cell? p=wc.cell? p):=fun v p hp=>World.cell?_of_block (w:=wc) (zRA hp _)
            have hwrap:IntKind.i64.wrap ((lines.length:Int)+1)=(lines.length:Int)+1:=by go_arith
            clear hgblk t1 t2 s1 q7
            go_wp2_with fail
            obtain ⟨wA,rfl⟩:∃ wA:World,wA=wc:=⟨_,rfl⟩
            go_cut [84] (fun a wx=>wx=wA.drew.setCell ⟨g,j*10+7,none⟩ (.int .i64 ((lines.length:Int)+1)))
            case first=>
             go_region_held3 (fun w'=>w'.cell? ⟨tb,1,none⟩=some (.slice (some ⟨g,0,none⟩) ops.length oc)∧w'.cell? ⟨tb,2,none⟩=some (.slice lo lines.length lc)∧w'.cell? ⟨cb,h*3+1,none⟩=some (.int .i64 (j:Int))) (first | exact ⟨(hset.out _ ⟨tb,1,none⟩ nt).trans u1,(hset.out _ ⟨tb,2,none⟩ nt).trans u2,(hset.out _ ⟨cb,h*3+1,none⟩ nc).trans u3⟩ | go_keep) (fail)
             all_goals
              go_wp2_with fail
              go_meet
              exact rfl
            case rest=>
             obtain ⟨lret,hlret⟩:∃ lret,lret=(lines.length:Int)+1:=⟨_,rfl⟩
             rw [←hlret] at hcut
             have hoj:ops[j]=⟨id,ocl,opS i k,okey,oarg,oexp,ocall,0,ovk,ovn⟩:=(List.getElem?_eq_some_iff.1 HJ.out.1).2
             have hown9:wc.ownsRow base 48 10 (.slice (some ⟨g,0,none⟩) ops.length oc) ops.length (opsRow (ops.set j (⟨id,ocl,opS i k,okey,oarg,oexp,ocall,lret,xk,xn⟩:OpV))):=by
              have hlen:(opsRow ops).length=ops.length*10:=m3.tale.ops.1
              have e:=zb0 ops j hjl lret xk xn
              rw [hoj] at e
              have e':opsRow (ops.set j (⟨id,ocl,opS i k,okey,oarg,oexp,ocall,lret,xk,xn⟩:OpV))=(((opsRow ops).set (j*10+8) (.int .i64 xk)).set (j*10+9) (.int .i64 xn)).set (j*10+7) (.int .i64 lret):=by
               rw [List.set_comm _ _ (show j*10+9≠j*10+7 by omega),List.set_comm _ _ (show j*10+8≠j*10+7 by omega)]
               exact e
              rw [e',hcut]
              exact zUj (World.ownsRow.drew hown8) (j*10+7) _ (by simp;omega)
             have hkB:Kept [g] w3 wc:=hkA.trans (by rw [hcut];exact ((Kept.refl _ _).drew).setCell (p:=⟨g,j*10+7,none⟩) (Or.inl (by simp)) _)
             obtain ⟨wB,rfl⟩:∃ wB:World,wB=wc:=⟨_,rfl⟩
             clear hcut hset hown8 hkA u1 u2 u3 u7 f7
             have HL:Hid (lret=(lines.length:Int)+1):=hlret
             clear hlret
             have hol':(ops.set j (⟨id,ocl,opS i k,okey,oarg,oexp,ocall,lret,xk,xn⟩:OpV)).length=ops.length:=by simp
             have htB:Tale wB tb base i (ops.set j (⟨id,ocl,opS i k,okey,oarg,oexp,ocall,lret,xk,xn⟩:OpV)) lines keys (.slice (some ⟨g,0,none⟩) ops.length oc) (.slice lo lines.length lc) vk:=
              ⟨(hkB.block tb (by omega) (by simpa using nt)).trans m3.tale.blk,by rw [hol'];exact hown9,z1O m3.tale.lines hkB (fun q hq=>by
               have:=zhv m3.tale.lines m3.tale.ops (by decide) q hq
               simpa [Value.ownBlock] using this),z1O m3.tale.keys hkB (fun q hq=>by
               have:=zhv m3.tale.keys m3.tale.ops (by decide) q hq
               simpa [Value.ownBlock] using this)⟩
             have hcell:∀ c u,c < 10→(opvCells (⟨id,ocl,opS i k,okey,oarg,oexp,ocall,lret,xk,xn⟩:OpV))[c]?=some u→wB.cell? ⟨g,j*10+c,none⟩=some u:=fun c u hc hu=>zDA hown9 _ _ ((zvc (ops.set j (⟨id,ocl,opS i k,okey,oarg,oexp,ocall,lret,xk,xn⟩:OpV)) j (by simpa using hjl) c hc).trans (by rw [List.getElem_set_self];exact hu))
             have hCB:=(hkB.block cb (zCqB m3.cblk) (by simpa using nc)).trans m3.cblk
             have hscB:SC tb cb g h j (.slice (some ⟨g,0,none⟩) ops.length oc) (⟨id,ocl,opS i k,okey,oarg,oexp,ocall,lret,xk,xn⟩:OpV) wB:=⟨by rw [zBk htB.blk];rfl,by rw [zBk hCB,Nat.mul_comm];exact E123.out.2.1,hcell 0 _ (by omega) rfl,hcell 1 _ (by omega) rfl,hcell 2 _ (by omega) rfl,hcell 3 _ (by omega) rfl,hcell 4 _ (by omega) rfl,hcell 5 _ (by omega) rfl,hcell 6 _ (by omega) rfl,hcell 7 _ (by omega) rfl,hcell 8 _ (by omega) rfl,hcell 9 _ (by omega) rfl⟩
             have hdB:=m3.dice.kept hkB (by simp;omega)
             have hzB:=hkB.size
             have u2B:wB.cell? ⟨tb,2,none⟩=some (.slice lo lines.length lc):=by rw [zBk htB.blk];rfl
             have hscD:SC tb cb g h j (.slice (some ⟨g,0,none⟩) ops.length oc) (⟨id,ocl,opS i k,okey,oarg,oexp,ocall,lret,xk,xn⟩:OpV) wB.drew:=hscB
             have hid:=m3.tl.tells.ids j _ HJ.out.1
             dsimp only at hid
             have hval':zWP xk xn:=by rw [HXK.out.1,HXK.out.2];exact hval.out
             have hAn:Calls Tryz.prog 21 #[.pointer (some ⟨b,0,none⟩),.agg #[.int .i64 id,.int .i64 ocl,.string ⟨(opS i k).toArray⟩,.string ⟨okey.toArray⟩,.int .i64 oarg,.int .i64 oexp,.int .i64 ocall,.int .i64 lret,.int .i64 xk,.int .i64 xn]] wB.drew fun e w'=>e=.returned (.string ⟨(zZ7 id xk xn d3).1.toArray⟩)∧Dice w' b (.slice oa code.length cap) code (zZ7 id xk xn d3).2∧Kept [b] wB.drew w':=
              zRZ b _ code d3 id ocl (opS i k) okey oarg oexp ocall lret xk xn wB.drew (hdB.below ((Below.refl _ _).drew)) (by omega) (by omega) hval'
             have HID:Hid (id=7*(j:Int) - 20):=hid
             clear hid hval'
             obtain ⟨R,hR⟩:∃ R,Hid (R=(zZ7 id xk xn d3).1):=⟨_,rfl⟩
             obtain ⟨d5,hd5e⟩:∃ d5,Hid (d5=(zZ7 id xk xn d3).2):=⟨_,rfl⟩
             rw [←hR.out,←hd5e.out] at hAn
             have hBD:∀ x,x < wB.heap.size→x≠b→x < wB.drew.heap.size∧x∉[b]:=fun x hx hne=>⟨hx,by simpa using hne⟩
             have htl:tb < wB.heap.size:=zCqB htB.blk
             have hcl3:cb < wB.heap.size:=zCqB hCB
             have hgl:g < wB.heap.size:=by omega
             have hlo:∀ x∈(Value.slice lo lines.length lc).ownBlock.toList,base≤x∧x < wB.heap.size:=fun x hx=>htB.lines.lt x (by simpa using hx)
             have hgo:g∉(Value.slice lo lines.length lc).ownBlock.toList:=fun hm=>by
              have:=zhv htB.ops htB.lines (by decide) g (by simp [Value.ownBlock])
              exact this hm
             have hnT2:tb∉(Value.slice lo lines.length lc).ownBlock.toList:=fun hm=>by have:=hlo _ hm;omega
             have hnC2:cb∉(Value.slice lo lines.length lc).ownBlock.toList:=fun hm=>by have:=hlo _ hm;omega
             have htcb:tb≠cb:=by omega
             have hll':lines.length≤1000:=by omega
             clear hcell hown9 hBD
             go_wp2_with fail
             go_cut [100] (fun a wx=>∃ a7 c7,Dice wx b (.slice oa code.length cap) code d5∧Tale wx tb base i (ops.set j (⟨id,ocl,opS i k,okey,oarg,oexp,ocall,lret,xk,xn⟩:OpV)) (lines++[R]) keys (.slice (some ⟨g,0,none⟩) ops.length oc) (.slice a7 (lines.length+1) c7) vk∧NewOr w3.heap.size (.slice lo lines.length lc) (.slice a7 (lines.length+1) c7)∧wx.heap[cb]?=some (.cells cc 56 (0,0))∧Kept ([b,cb,tb]++((Value.slice lo lines.length lc).ownBlock.toList++(Value.slice (some ⟨g,0,none⟩) ops.length oc).ownBlock.toList)) w3 wx)
             case first=>
              have pack:Hid (∀ w5:World,Dice w5 b (.slice oa code.length cap) code d5→Kept [b] wB.drew w5→∃ a7 c7 w7,(Builtin.append_ #[24,24] 24 #[.slice lo lines.length lc,.slice (some ⟨w5.heap.size,0,none⟩) 1 1]).run Tryz.prog (w5.alloc (.cells #[.string ⟨R.toArray⟩] 9))=.ok (.slice a7 (lines.length+1) c7) w7∧
               w5.cell? ⟨tb,2,none⟩=some (.slice lo lines.length lc)∧(w5.alloc (.cells #[.string ⟨R.toArray⟩] 9)).cell? ⟨tb,2,none⟩=some (.slice lo lines.length lc)∧w7.cell? ⟨tb,2,none⟩=some (.slice lo lines.length lc)∧w7.frozen? ⟨tb,2,none⟩=false∧SC tb cb g h j (.slice (some ⟨g,0,none⟩) ops.length oc) (⟨id,ocl,opS i k,okey,oarg,oexp,ocall,lret,xk,xn⟩:OpV) w5∧SC tb cb g h j (.slice (some ⟨g,0,none⟩) ops.length oc) (⟨id,ocl,opS i k,okey,oarg,oexp,ocall,lret,xk,xn⟩:OpV) (w5.alloc (.cells #[.string ⟨R.toArray⟩] 9))∧SC tb cb g h j (.slice (some ⟨g,0,none⟩) ops.length oc) (⟨id,ocl,opS i k,okey,oarg,oexp,ocall,lret,xk,xn⟩:OpV) w7∧SC tb cb g h j (.slice (some ⟨g,0,none⟩) ops.length oc) (⟨id,ocl,opS i k,okey,oarg,oexp,ocall,lret,xk,xn⟩:OpV) (w7.setCell ⟨tb,2,none⟩ (.slice a7 (lines.length+1) c7))∧(∃ a8 c8,Dice (w7.setCell ⟨tb,2,none⟩ (.slice a7 (lines.length+1) c7)) b (.slice oa code.length cap) code d5∧Tale (w7.setCell ⟨tb,2,none⟩ (.slice a7 (lines.length+1) c7)) tb base i (ops.set j (⟨id,ocl,opS i k,okey,oarg,oexp,ocall,lret,xk,xn⟩:OpV)) (lines++[R]) keys (.slice (some ⟨g,0,none⟩) ops.length oc) (.slice a8 (lines.length+1) c8) vk∧NewOr w3.heap.size (.slice lo lines.length lc) (.slice a8 (lines.length+1) c8)∧(w7.setCell ⟨tb,2,none⟩ (.slice a7 (lines.length+1) c7)).heap[cb]?=some (.cells cc 56 (0,0))∧Kept ([b,cb,tb]++((Value.slice lo lines.length lc).ownBlock.toList++(Value.slice (some ⟨g,0,none⟩) ops.length oc).ownBlock.toList)) w3 (w7.setCell ⟨tb,2,none⟩ (.slice a7 (lines.length+1) c7)))):=by
               intro w5 hd5 hk5
               have hT5:=(hk5.block tb htl (by simp;omega)).trans htB.blk
               have hC5:=(hk5.block cb hcl3 (by simp;omega)).trans hCB
               have ht5:=htB.kept (S:=[b]) ((Kept.refl [b] wB).drew.trans hk5) (by simp;omega) (by simp;omega)
               have hz5:wB.heap.size≤w5.heap.size:=hk5.size
               obtain ⟨a7,c7,w7,hap,own7,hk7,hN7⟩:=ap_str w5 base lo lines.length lc (strCells lines) ⟨R.toArray⟩ ht5.lines hll' (by omega)
               have hT7:=(hk7.block tb (by omega) hnT2).trans hT5
               have l5:w5.cell? ⟨tb,2,none⟩=some (.slice lo lines.length lc):=zBk hT5 2
               have hkE:Kept [tb] w7 (w7.setCell ⟨tb,2,none⟩ (.slice a7 (lines.length+1) c7)):=(Kept.refl _ _).setCell (p:=⟨tb,2,none⟩) (Or.inl (by simp)) _
               have own7':w7.ownsRow base 9 1 (.slice a7 (lines.length+1) c7) (lines++[R]).length (strCells (lines++[R])):=by rw [zBt,List.length_append];exact own7
               have hsc5:=hscD.bl (hk5.block tb htl (by simp;omega)) (hk5.block cb hcl3 (by simp;omega)) (hk5.block g hgl (by simp;omega))
               have hscA:SC tb cb g h j (.slice (some ⟨g,0,none⟩) ops.length oc) (⟨id,ocl,opS i k,okey,oarg,oexp,ocall,lret,xk,xn⟩:OpV) (w5.alloc (.cells #[.string ⟨R.toArray⟩] 9)):=hsc5.bl (zD1 _ _ _ (by omega)) (zD1 _ _ _ (by omega)) (zD1 _ _ _ (by omega))
               have hsc7:=hsc5.bl (hk7.block tb (by omega) hnT2) (hk7.block cb (by omega) hnC2) (hk7.block g (by omega) hgo)
               have hscE:SC tb cb g h j (.slice (some ⟨g,0,none⟩) ops.length oc) (⟨id,ocl,opS i k,okey,oarg,oexp,ocall,lret,xk,xn⟩:OpV) (w7.setCell ⟨tb,2,none⟩ (.slice a7 (lines.length+1) c7)):=hsc7.tr (World.cell?_setCell_other _ _ _ _ (by intro e;injection e with _ e1;cases e1)) (zRA (by show cb≠tb;omega) _) (zRA (by show g≠tb;omega) _)
               refine ⟨a7,c7,w7,hap,l5,(World.cell?_alloc_lt _ _ _ (by show tb < w5.heap.size;omega)).trans l5,zBk hT7 2,zBn hT7 2,hsc5,hscA,hsc7,hscE,?_⟩
               refine ⟨a7,c7,(hd5.kept hk7 (fun x hx=>by have:=hlo x hx;omega)).kept hkE (by simp;omega),⟨by rw [zFg hT7];rfl,zzF (z1O ht5.ops hk7 (zhv ht5.ops ht5.lines (by decide))) hkE (by simp;omega),zzF own7' hkE (by simp;omega),zzF (z1O ht5.keys hk7 (zhv ht5.keys ht5.lines (by decide))) hkE (by simp;omega)⟩,hN7.mono (by omega),?_,?_⟩
               · rw [zRA (by show cb≠tb;omega)];exact (hk7.block cb (by omega) hnC2).trans hC5
               · have hkB':Kept ([b,cb,tb]++((Value.slice lo lines.length lc).ownBlock.toList++(Value.slice (some ⟨g,0,none⟩) ops.length oc).ownBlock.toList)) w3 wB:=hkB.mono (fun x _ hx=>by simp at hx;subst hx;simp [Value.ownBlock])
                 exact zh0 (zh0 (zh0 hkB' ((Kept.refl [b] wB).drew.trans hk5) (fun x hx=>Or.inl (by simp at hx;subst hx;simp))) hk7 (fun x hx=>Or.inl (List.mem_append.2 (Or.inr (List.mem_append.2 (Or.inl hx)))))) hkE (fun x hx=>Or.inl (by simp at hx;subst hx;simp))
              clear hscB htB hCB hdB hkB m3 hBl3 hMI hBw hR0 hlo hgo hnT2 hnC2 hol' hR hd5e HXK HL HID hok hval HJ E123 HG hk hkk hz ha
              refine wp_region_held_drew (S:=fun w'=>SC tb cb g h j (.slice (some ⟨g,0,none⟩) ops.length oc) (⟨id,ocl,opS i k,okey,oarg,oexp,ocall,lret,xk,xn⟩:OpV) w') (by kernel_rfl) hscD (fun hHeld=>?_)
              refine wpAnyH_take (i:=0) (oi:=⟨some 87,.fieldAddr 26 (.tmp 11) 2,0, "maker.go:289",#[],none⟩) (v:=?_) rfl (by kernel_rfl) (by kernel_rfl) (by kernel_rfl) (fun _ _ _ h=>h) (Or.inl ⟨by rfl,?_⟩) (by assumption) ?_
              rotate_left
              · intro w0 hSw
                first | (go_simp;done) | (go_simp;with_reducible rfl)
              try simp only [Act.put,List.setIfInBounds_toArray,List.set_cons_zero,List.set_cons_succ]
              refine wpAnyH_take (i:=2) (oi:=⟨some 89,.move (.tmp 9),33, "maker.go:289",#[],none⟩) (v:=?_) rfl (by kernel_rfl) (by kernel_rfl) (by kernel_rfl) (fun _ _ _ h=>h) (Or.inl ⟨by rfl,?_⟩) (by assumption) ?_
              rotate_left
              · intro w0 hSw
                first | (go_simp;done) | (go_simp;with_reducible rfl)
              try simp only [Act.put,List.setIfInBounds_toArray,List.set_cons_zero,List.set_cons_succ]
              refine wpAnyH_take (i:=3) (oi:=⟨some 90,.fieldAddr 26 (.tmp 11) 1,0, "maker.go:289",#[],none⟩) (v:=?_) rfl (by kernel_rfl) (by kernel_rfl) (by kernel_rfl) (fun _ _ _ h=>h) (Or.inl ⟨by rfl,?_⟩) (by assumption) ?_
              rotate_left
              · intro w0 hSw
                first | (go_simp;done) | (go_simp;with_reducible rfl)
              try simp only [Act.put,List.setIfInBounds_toArray,List.set_cons_zero,List.set_cons_succ]
              refine wpAnyH_take (i:=4) (oi:=⟨some 91,.load 23 (.tmp 90),23, "maker.go:289",#[⟨3,.data⟩],none⟩) (v:=?_) rfl (by kernel_rfl) (by kernel_rfl) (by kernel_rfl) (fun _ _ _ h=>h) (Or.inl ⟨by rfl,?_⟩) (by assumption) ?_
              rotate_left
              · intro w0 hSw
                obtain ⟨y1,y2,z0,z1,z2,z3,z4,z5,z6,z7,z8,z9⟩:=hSw
                dsimp only at z0 z1 z2 z3 z4 z5 z6 z7 z8 z9
                first | (go_simp;done) | (go_simp;with_reducible rfl)
              try simp only [Act.put,List.setIfInBounds_toArray,List.set_cons_zero,List.set_cons_succ]
              refine wpAnyH_take (i:=5) (oi:=⟨some 92,.move (.tmp 15),59, "maker.go:289",#[],none⟩) (v:=?_) rfl (by kernel_rfl) (by kernel_rfl) (by kernel_rfl) (fun _ _ _ h=>h) (Or.inl ⟨by rfl,?_⟩) (by assumption) ?_
              rotate_left
              · intro w0 hSw
                first | (go_simp;done) | (go_simp;with_reducible rfl)
              try simp only [Act.put,List.setIfInBounds_toArray,List.set_cons_zero,List.set_cons_succ]
              refine wpAnyH_take (i:=6) (oi:=⟨some 93,.nilCheck (.tmp 92),0, "maker.go:289",#[⟨5,.data⟩],none⟩) (v:=?_) rfl (by kernel_rfl) (by kernel_rfl) (by kernel_rfl) (fun _ _ _ h=>h) (Or.inl ⟨by rfl,?_⟩) (by assumption) ?_
              rotate_left
              · intro w0 hSw
                first | (go_simp;done) | (go_simp;with_reducible rfl)
              try simp only [Act.put,List.setIfInBounds_toArray,List.set_cons_zero,List.set_cons_succ]
              refine wpAnyH_take (i:=7) (oi:=⟨some 94,.fieldAddr 55 (.tmp 93) 1,0, "maker.go:289",#[⟨6,.data⟩],none⟩) (v:=?_) rfl (by kernel_rfl) (by kernel_rfl) (by kernel_rfl) (fun _ _ _ h=>h) (Or.inl ⟨by rfl,?_⟩) (by assumption) ?_
              rotate_left
              · intro w0 hSw
                first | (go_simp;done) | (go_simp;with_reducible rfl)
              try simp only [Act.put,List.setIfInBounds_toArray,List.set_cons_zero,List.set_cons_succ]
              refine wpAnyH_take (i:=8) (oi:=⟨some 95,.load 3 (.tmp 94),3, "maker.go:289",#[⟨7,.data⟩],none⟩) (v:=?_) rfl (by kernel_rfl) (by kernel_rfl) (by kernel_rfl) (fun _ _ _ h=>h) (Or.inl ⟨by rfl,?_⟩) (by assumption) ?_
              rotate_left
              · intro w0 hSw
                obtain ⟨y1,y2,z0,z1,z2,z3,z4,z5,z6,z7,z8,z9⟩:=hSw
                dsimp only at z0 z1 z2 z3 z4 z5 z6 z7 z8 z9
                first | (go_simp;done) | (go_simp;with_reducible rfl)
              try simp only [Act.put,List.setIfInBounds_toArray,List.set_cons_zero,List.set_cons_succ]
              refine wpAnyH_take (i:=9) (oi:=⟨some 96,.indexAddr 23 (.tmp 91) (.tmp 95),0, "maker.go:289",#[⟨4,.data⟩,⟨8,.data⟩],none⟩) (v:=?_) rfl (by kernel_rfl) (by kernel_rfl) (by kernel_rfl) (fun _ _ _ h=>h) (Or.inl ⟨by rfl,?_⟩) (by assumption) ?_
              rotate_left
              · intro w0 hSw
                first | (go_simp;done) | (go_simp;with_reducible rfl)
              try simp only [Act.put,List.setIfInBounds_toArray,List.set_cons_zero,List.set_cons_succ]
              refine wpAnyH_take (i:=10) (oi:=⟨some 97,.load 48 (.tmp 96),48, "maker.go:289",#[⟨9,.data⟩],none⟩) (v:=?_) rfl (by kernel_rfl) (by kernel_rfl) (by kernel_rfl) (fun _ _ _ h=>h) (Or.inl ⟨by rfl,?_⟩) (by assumption) ?_
              rotate_left
              · intro w0 hSw
                obtain ⟨y1,y2,z0,z1,z2,z3,z4,z5,z6,z7,z8,z9⟩:=hSw
                dsimp only at z0 z1 z2 z3 z4 z5 z6 z7 z8 z9
                first | (go_simp;done) | (go_simp;with_reducible rfl)
              try simp only [Act.put,List.setIfInBounds_toArray,List.set_cons_zero,List.set_cons_succ]
              refine wpAnyH_ready (rs:=[1,11]) (by kernel_rfl) (by simp) ?_
              refine AllReadyH.cons (o:=⟨some 88,.load 24 (.tmp 87),24, "maker.go:289",#[⟨0,.data⟩],none⟩) rfl (fun K hK=>?_) ?_
              · go_simp
                refine hK.out _ _ hscD (fun hHeld=>?_)
                clear hK K
                try simp only [Act.put,List.setIfInBounds_toArray,List.set_cons_zero,List.set_cons_succ]
                refine wpAnyH_ready (rs:=[11]) (by kernel_rfl) (by simp) ?_
                refine AllReadyH.cons (o:=⟨some 98,.call { callee:=Callee.value (.func 21),args:=#[.tmp 89,.tmp 97],argTypes:=#[33,48] },9, "maker.go:289",#[⟨2,.data⟩,⟨10,.data⟩],none⟩) rfl (fun K hK=>?_) AllReadyH.nil
                go_simp
                go_at_call 21
                refine hAn.mono ?_
                rintro e w5 ⟨rfl,hd5,hk5⟩
                obtain ⟨a7,c7,w7,hap,l5,l2',l2,lf,hS5,hSA,hS7,hSE,hrel⟩:=pack.out w5 hd5 hk5
                go_wp2_with fail
                refine hK.out _ _ hS5 (fun hHeld=>?_)
                clear hK K
                try simp only [Act.put,List.setIfInBounds_toArray,List.set_cons_zero,List.set_cons_succ]
                refine wpAnyH_ready (rs:=[12]) (by kernel_rfl) (by simp) ?_
                refine AllReadyH.cons (o:=⟨some 99,.buildSlice 24 1 #[(0,.tmp 98)],24, "maker.go:289",#[⟨11,.data⟩],none⟩) rfl (fun K hK=>?_) AllReadyH.nil
                go_simp
                refine hK.out _ _ hSA (fun hHeld=>?_)
                clear hK K
                try simp only [Act.put,List.setIfInBounds_toArray,List.set_cons_zero,List.set_cons_succ]
                refine wpAnyH_ready (rs:=[13]) (by kernel_rfl) (by simp) ?_
                refine AllReadyH.cons (o:=⟨some 100,.call { callee:=Callee.builtin Builtin.append,args:=#[.tmp 88,.tmp 99],argTypes:=#[24,24] },24, "maker.go:289",#[⟨1,.data⟩,⟨12,.data⟩,⟨11,.chain⟩],none⟩) rfl (fun K hK=>?_) AllReadyH.nil
                refine zti rfl _ _ 24 rfl _ _ _ _ rfl rfl hap ?_
                refine hK.out _ _ hS7 (fun hHeld=>?_)
                clear hK K
                try simp only [Act.put,List.setIfInBounds_toArray,List.set_cons_zero,List.set_cons_succ]
                refine wpAnyH_take (i:=14) (oi:=⟨some 101,.fieldAddr 26 (.tmp 11) 2,0, "maker.go:289",#[⟨0,.phase⟩,⟨1,.phase⟩,⟨2,.phase⟩,⟨3,.phase⟩,⟨4,.phase⟩,⟨5,.phase⟩,⟨6,.phase⟩,⟨7,.phase⟩,⟨8,.phase⟩,⟨9,.phase⟩,⟨10,.phase⟩,⟨11,.phase⟩,⟨12,.phase⟩,⟨13,.phase⟩],none⟩) (v:=?_) rfl (by kernel_rfl) (by kernel_rfl) (by kernel_rfl) (fun _ _ _ h=>h) (Or.inl ⟨by rfl,?_⟩) (by assumption) ?_
                rotate_left
                · intro w0 hSw
                  first | (go_simp;done) | (go_simp;with_reducible rfl)
                try simp only [Act.put,List.setIfInBounds_toArray,List.set_cons_zero,List.set_cons_succ]
                refine wpAnyH_ready (rs:=[15]) (by kernel_rfl) (by simp) ?_
                refine AllReadyH.cons (o:=⟨none,.store 24 (.tmp 101) (.tmp 100),0, "maker.go:289",#[⟨14,.data⟩,⟨13,.data⟩,⟨13,.chain⟩,⟨0,.phase⟩,⟨1,.phase⟩,⟨2,.phase⟩,⟨3,.phase⟩,⟨4,.phase⟩,⟨5,.phase⟩,⟨6,.phase⟩,⟨7,.phase⟩,⟨8,.phase⟩,⟨9,.phase⟩,⟨10,.phase⟩,⟨11,.phase⟩,⟨12,.phase⟩,⟨13,.phase⟩],none⟩) rfl (fun K hK=>?_) AllReadyH.nil
                go_simp
                refine hK.out _ _ hSE (fun hHeld=>?_)
                clear hK K
                try simp only [Act.put,List.setIfInBounds_toArray,List.set_cons_zero,List.set_cons_succ]
                refine wpAnyH_done (by kernel_rfl) ?_ _
                go_wp2_with fail
                go_meet
                exact hrel
              refine AllReadyH.cons (o:=⟨some 98,.call { callee:=Callee.value (.func 21),args:=#[.tmp 89,.tmp 97],argTypes:=#[33,48] },9, "maker.go:289",#[⟨2,.data⟩,⟨10,.data⟩],none⟩) rfl (fun K hK=>?_) AllReadyH.nil
              go_simp
              go_at_call 21
              refine hAn.mono ?_
              rintro e w5 ⟨rfl,hd5,hk5⟩
              obtain ⟨a7,c7,w7,hap,l5,l2',l2,lf,hS5,hSA,hS7,hSE,hrel⟩:=pack.out w5 hd5 hk5
              go_wp2_with fail
              refine hK.out _ _ hS5 (fun hHeld=>?_)
              clear hK K
              try simp only [Act.put,List.setIfInBounds_toArray,List.set_cons_zero,List.set_cons_succ]
              refine wpAnyH_ready (rs:=[1,12]) (by kernel_rfl) (by simp) ?_
              refine AllReadyH.cons (o:=⟨some 88,.load 24 (.tmp 87),24, "maker.go:289",#[⟨0,.data⟩],none⟩) rfl (fun K hK=>?_) ?_
              · go_simp
                refine hK.out _ _ hS5 (fun hHeld=>?_)
                clear hK K
                try simp only [Act.put,List.setIfInBounds_toArray,List.set_cons_zero,List.set_cons_succ]
                refine wpAnyH_ready (rs:=[12]) (by kernel_rfl) (by simp) ?_
                refine AllReadyH.cons (o:=⟨some 99,.buildSlice 24 1 #[(0,.tmp 98)],24, "maker.go:289",#[⟨11,.data⟩],none⟩) rfl (fun K hK=>?_) AllReadyH.nil
                go_simp
                refine hK.out _ _ hSA (fun hHeld=>?_)
                clear hK K
                try simp only [Act.put,List.setIfInBounds_toArray,List.set_cons_zero,List.set_cons_succ]
                refine wpAnyH_ready (rs:=[13]) (by kernel_rfl) (by simp) ?_
                refine AllReadyH.cons (o:=⟨some 100,.call { callee:=Callee.builtin Builtin.append,args:=#[.tmp 88,.tmp 99],argTypes:=#[24,24] },24, "maker.go:289",#[⟨1,.data⟩,⟨12,.data⟩,⟨11,.chain⟩],none⟩) rfl (fun K hK=>?_) AllReadyH.nil
                refine zti rfl _ _ 24 rfl _ _ _ _ rfl rfl hap ?_
                refine hK.out _ _ hS7 (fun hHeld=>?_)
                clear hK K
                try simp only [Act.put,List.setIfInBounds_toArray,List.set_cons_zero,List.set_cons_succ]
                refine wpAnyH_take (i:=14) (oi:=⟨some 101,.fieldAddr 26 (.tmp 11) 2,0, "maker.go:289",#[⟨0,.phase⟩,⟨1,.phase⟩,⟨2,.phase⟩,⟨3,.phase⟩,⟨4,.phase⟩,⟨5,.phase⟩,⟨6,.phase⟩,⟨7,.phase⟩,⟨8,.phase⟩,⟨9,.phase⟩,⟨10,.phase⟩,⟨11,.phase⟩,⟨12,.phase⟩,⟨13,.phase⟩],none⟩) (v:=?_) rfl (by kernel_rfl) (by kernel_rfl) (by kernel_rfl) (fun _ _ _ h=>h) (Or.inl ⟨by rfl,?_⟩) (by assumption) ?_
                rotate_left
                · intro w0 hSw
                  first | (go_simp;done) | (go_simp;with_reducible rfl)
                try simp only [Act.put,List.setIfInBounds_toArray,List.set_cons_zero,List.set_cons_succ]
                refine wpAnyH_ready (rs:=[15]) (by kernel_rfl) (by simp) ?_
                refine AllReadyH.cons (o:=⟨none,.store 24 (.tmp 101) (.tmp 100),0, "maker.go:289",#[⟨14,.data⟩,⟨13,.data⟩,⟨13,.chain⟩,⟨0,.phase⟩,⟨1,.phase⟩,⟨2,.phase⟩,⟨3,.phase⟩,⟨4,.phase⟩,⟨5,.phase⟩,⟨6,.phase⟩,⟨7,.phase⟩,⟨8,.phase⟩,⟨9,.phase⟩,⟨10,.phase⟩,⟨11,.phase⟩,⟨12,.phase⟩,⟨13,.phase⟩],none⟩) rfl (fun K hK=>?_) AllReadyH.nil
                go_simp
                refine hK.out _ _ hSE (fun hHeld=>?_)
                clear hK K
                try simp only [Act.put,List.setIfInBounds_toArray,List.set_cons_zero,List.set_cons_succ]
                refine wpAnyH_done (by kernel_rfl) ?_ _
                go_wp2_with fail
                go_meet
                exact hrel
              refine AllReadyH.cons (o:=⟨some 99,.buildSlice 24 1 #[(0,.tmp 98)],24, "maker.go:289",#[⟨11,.data⟩],none⟩) rfl (fun K hK=>?_) AllReadyH.nil
              go_simp
              refine hK.out _ _ hSA (fun hHeld=>?_)
              clear hK K
              try simp only [Act.put,List.setIfInBounds_toArray,List.set_cons_zero,List.set_cons_succ]
              refine wpAnyH_ready (rs:=[1]) (by kernel_rfl) (by simp) ?_
              refine AllReadyH.cons (o:=⟨some 88,.load 24 (.tmp 87),24, "maker.go:289",#[⟨0,.data⟩],none⟩) rfl (fun K hK=>?_) AllReadyH.nil
              go_simp
              refine hK.out _ _ hSA (fun hHeld=>?_)
              clear hK K
              try simp only [Act.put,List.setIfInBounds_toArray,List.set_cons_zero,List.set_cons_succ]
              refine wpAnyH_ready (rs:=[13]) (by kernel_rfl) (by simp) ?_
              refine AllReadyH.cons (o:=⟨some 100,.call { callee:=Callee.builtin Builtin.append,args:=#[.tmp 88,.tmp 99],argTypes:=#[24,24] },24, "maker.go:289",#[⟨1,.data⟩,⟨12,.data⟩,⟨11,.chain⟩],none⟩) rfl (fun K hK=>?_) AllReadyH.nil
              refine zti rfl _ _ 24 rfl _ _ _ _ rfl rfl hap ?_
              refine hK.out _ _ hS7 (fun hHeld=>?_)
              clear hK K
              try simp only [Act.put,List.setIfInBounds_toArray,List.set_cons_zero,List.set_cons_succ]
              refine wpAnyH_take (i:=14) (oi:=⟨some 101,.fieldAddr 26 (.tmp 11) 2,0, "maker.go:289",#[⟨0,.phase⟩,⟨1,.phase⟩,⟨2,.phase⟩,⟨3,.phase⟩,⟨4,.phase⟩,⟨5,.phase⟩,⟨6,.phase⟩,⟨7,.phase⟩,⟨8,.phase⟩,⟨9,.phase⟩,⟨10,.phase⟩,⟨11,.phase⟩,⟨12,.phase⟩,⟨13,.phase⟩],none⟩) (v:=?_) rfl (by kernel_rfl) (by kernel_rfl) (by kernel_rfl) (fun _ _ _ h=>h) (Or.inl ⟨by rfl,?_⟩) (by assumption) ?_
              rotate_left
              · intro w0 hSw
                first | (go_simp;done) | (go_simp;with_reducible rfl)
              try simp only [Act.put,List.setIfInBounds_toArray,List.set_cons_zero,List.set_cons_succ]
              refine wpAnyH_ready (rs:=[15]) (by kernel_rfl) (by simp) ?_
              refine AllReadyH.cons (o:=⟨none,.store 24 (.tmp 101) (.tmp 100),0, "maker.go:289",#[⟨14,.data⟩,⟨13,.data⟩,⟨13,.chain⟩,⟨0,.phase⟩,⟨1,.phase⟩,⟨2,.phase⟩,⟨3,.phase⟩,⟨4,.phase⟩,⟨5,.phase⟩,⟨6,.phase⟩,⟨7,.phase⟩,⟨8,.phase⟩,⟨9,.phase⟩,⟨10,.phase⟩,⟨11,.phase⟩,⟨12,.phase⟩,⟨13,.phase⟩],none⟩) rfl (fun K hK=>?_) AllReadyH.nil
              go_simp
              refine hK.out _ _ hSE (fun hHeld=>?_)
              clear hK K
              try simp only [Act.put,List.setIfInBounds_toArray,List.set_cons_zero,List.set_cons_succ]
              refine wpAnyH_done (by kernel_rfl) ?_ _
              go_wp2_with fail
              go_meet
              exact hrel
             case rest=>
              obtain ⟨a7,c7,hd6,ht6,hN6,hC6,hk6⟩:=hcut
              have x0:wc.cell? ⟨cb,h*3,none⟩=some (.int .i64 2):=by rw [zBk hC6,Nat.mul_comm,←HS.out];exact E123.out.1
              have xf:wc.frozen? ⟨cb,h*3,none⟩=false:=zBn hC6 _
              have hkE:Kept [cb] wc (wc.setCell ⟨cb,h*3,none⟩ (.int .i64 0)):=(Kept.refl _ _).setCell (p:=⟨cb,h*3,none⟩) (Or.inl (by simp)) _
              have hk8:=zh0 hk6 hkE (fun x hx=>Or.inl (by simp at hx;subst hx;simp))
              have hd8:=hd6.kept hkE (by simp;omega)
              have ht8:=ht6.kept hkE (by simp;omega) (by simp;omega)
              have hC8:(wc.setCell ⟨cb,h*3,none⟩ (.int .i64 0)).heap[cb]?=some (.cells (cc.setIfInBounds (3*h) (.int .i64 0)) 56 (0,0)):=by rw [zFg hC6,Nat.mul_comm]
              rw [hR.out,HXK.out.1,HXK.out.2,HL.out] at ht8
              have m6:=m3.back ⟨hO1,hO2,hO3,hO4,hO5⟩ h hh HS.out (by omega) j kk k _ E123.out.2.1 E123.out.2.2 HJ.out.1 HJ.out.2.1 rfl hk rfl HJ.out.2.2 hok.out hd8 ht8 hN6 hC8 hk8
              have hBl8:Below b W (wc.setCell ⟨cb,h*3,none⟩ (.int .i64 0)):=hBl3.trans (hk8.below (by omega) (fun x hx=>by
               rcases List.mem_append.1 hx with hx | hx
               · simp only [List.mem_cons,List.not_mem_nil,or_false] at hx;omega
               · rcases List.mem_append.1 hx with hx | hx
                 · have:=m3.tale.lines.lt x (by simpa using hx);omega
                 · have:=m3.tale.ops.lt x (by simpa using hx);omega))
              have hMM:Hid (mM most (lines.length+1) (upd st h 0) < mM most lines.length st):=by
               have a1:=z3v most (lines.length+1) st h hh 0
               have a2:=zeF most lines.length st (by omega)
               have s0':stF (st h)=1:=by rw [HS.out];rfl
               have s1':stF 0=0:=rfl
               show _ < _
               omega
              clear hkE hk8 hd8 ht8 hC8 hk6 hd6 ht6 hN6 hC6 m3 hBl3 htB hscB hscD hdB hAn u2B hCB hkB s0 s2
              go_wp2_with fail
              go_roundg (mM most (lines.length+1) (upd st h 0))
              case measure=>rw [HG.out];exact hMM.out
              case rel=>exact ⟨h,_,_,_,_,_,_,_,_,_,_,_,_,_,_,_,rfl,by simp,m6,hBl8,hh,fun e h' a c=>by rw [zkf _ _ c];exact HA.out e h' a c⟩
    · have hord:=HO.out
      have hR4:=(hBl.block rb (by omega)).trans hR0
      obtain ⟨ko,kc,rfl⟩:=zIW m.tale.keys
      have t0:wr.cell? ⟨tb,0,none⟩=some (.string ⟨(modS i).toArray⟩):=by rw [zBk m.tale.blk];rfl
      have t1:wr.cell? ⟨tb,1,none⟩=some (.slice oo ops.length oc):=by rw [zBk m.tale.blk];rfl
      have t3:wr.cell? ⟨tb,3,none⟩=some (.slice ko keys.length kc):=by rw [zBk m.tale.blk];rfl
      have r0:wr.cell? ⟨rb,0,none⟩=some (.string ⟨#[]⟩):=by rw [zBk hR4];rfl
      have r1:wr.cell? ⟨rb,1,none⟩=some (.slice none 0 0):=by rw [zBk hR4];rfl
      have r2:wr.cell? ⟨rb,2,none⟩=some (.slice none 0 0):=by rw [zBk hR4];rfl
      have r3:wr.cell? ⟨rb,3,none⟩=some (.slice none 0 0):=by rw [zBk hR4];rfl
      have z0:wr.frozen? ⟨rb,0,none⟩=false:=zBn hR4 0
      have z1:wr.frozen? ⟨rb,1,none⟩=false:=zBn hR4 1
      have z2:wr.frozen? ⟨rb,2,none⟩=false:=zBn hR4 2
      have z3:wr.frozen? ⟨rb,3,none⟩=false:=zBn hR4 3
      have nrt:tb≠rb:=by have:=hB.1;have:=hB.2.1;omega
      have hkR:Kept [rb] wr ((((wr.drew.setCell ⟨rb,0,none⟩ (.string ⟨(modS i).toArray⟩)).setCell ⟨rb,1,none⟩ (.slice oo ops.length oc)).setCell ⟨rb,2,none⟩ (.slice lo lines.length lc)).setCell ⟨rb,3,none⟩ (.slice ko keys.length kc)):=(((((Kept.refl _ _).drew).setCell (p:=⟨rb,0,none⟩) (Or.inl (by simp)) _).setCell (p:=⟨rb,1,none⟩) (Or.inl (by simp)) _).setCell (p:=⟨rb,2,none⟩) (Or.inl (by simp)) _).setCell (p:=⟨rb,3,none⟩) (Or.inl (by simp)) _
      have hrl:rb < wr.heap.size:=zCqB hR4
      have hRF:Hid (((((wr.drew.setCell ⟨rb,0,none⟩ (.string ⟨(modS i).toArray⟩)).setCell ⟨rb,1,none⟩ (.slice oo ops.length oc)).setCell ⟨rb,2,none⟩ (.slice lo lines.length lc)).setCell ⟨rb,3,none⟩ (.slice ko keys.length kc)).heap[rb]?=some (.cells #[.string ⟨(modS i).toArray⟩,.slice oo ops.length oc,.slice lo lines.length lc,.slice ko keys.length kc] 26 (0,0))):=by show _=_;rw [zFg (zFg (zFg (zFg (w:=wr.drew) hR4 0 _) 1 _) 2 _) 3 _];rfl
      have hPost:zGX al i most w (.returned (.agg #[.string ⟨(modS i).toArray⟩,.slice oo ops.length oc,.slice lo lines.length lc,.slice ko keys.length kc])) ((((wr.drew.setCell ⟨rb,0,none⟩ (.string ⟨(modS i).toArray⟩)).setCell ⟨rb,1,none⟩ (.slice oo ops.length oc)).setCell ⟨rb,2,none⟩ (.slice lo lines.length lc)).setCell ⟨rb,3,none⟩ (.slice ko keys.length kc)):=by
       obtain ⟨o1,o2,o3,o4,o5⟩:=hB
       refine ⟨_,_,ops,lines,base,_,keys,ls,dn,rfl,m.tl,m.ll,zzF m.tale.ops hkR (by simp;omega),zzF m.tale.lines hkR (by simp;omega),by omega,?_,m.kl,zzF m.tale.keys hkR (by simp;omega)⟩
       have hw1:Below rb w wr:=hBw.trans (hBl.mono (by omega))
       rw [hord.2.2.2.2]
       exact hw1.trans (hkR.below (by omega) (by simp))
      have h2d:decide (lines.length < most)=false:=by simp;omega
      clear hord hR4 hkR m hBl hMI hBw hR0
      go_wp2_with fail
      go_cut [42] (fun a wx=>a=.bool false∧wx=wr.drew)
      case first=>
       go_region
       all_goals
        go_wp2_with fail
        go_meet
        exact ⟨rfl,rfl⟩
      case rest=>
       obtain ⟨rfl,rfl⟩:=hcut
       clear c0 c1
       go_wp2
       refine bodyPost_ret (zM5 _ _ rb _ _ _ _ (by simp) hRF.out) rfl hPost
  · have hord:=HO.out
    have hR4:=(hBl.block rb (by omega)).trans hR0
    obtain ⟨ko,kc,rfl⟩:=zIW m.tale.keys
    have t0:wr.cell? ⟨tb,0,none⟩=some (.string ⟨(modS i).toArray⟩):=by rw [zBk m.tale.blk];rfl
    have t1:wr.cell? ⟨tb,1,none⟩=some (.slice oo ops.length oc):=by rw [zBk m.tale.blk];rfl
    have t3:wr.cell? ⟨tb,3,none⟩=some (.slice ko keys.length kc):=by rw [zBk m.tale.blk];rfl
    have r0:wr.cell? ⟨rb,0,none⟩=some (.string ⟨#[]⟩):=by rw [zBk hR4];rfl
    have r1:wr.cell? ⟨rb,1,none⟩=some (.slice none 0 0):=by rw [zBk hR4];rfl
    have r2:wr.cell? ⟨rb,2,none⟩=some (.slice none 0 0):=by rw [zBk hR4];rfl
    have r3:wr.cell? ⟨rb,3,none⟩=some (.slice none 0 0):=by rw [zBk hR4];rfl
    have z0:wr.frozen? ⟨rb,0,none⟩=false:=zBn hR4 0
    have z1:wr.frozen? ⟨rb,1,none⟩=false:=zBn hR4 1
    have z2:wr.frozen? ⟨rb,2,none⟩=false:=zBn hR4 2
    have z3:wr.frozen? ⟨rb,3,none⟩=false:=zBn hR4 3
    have nrt:tb≠rb:=by have:=hB.1;have:=hB.2.1;omega
    have hkR:Kept [rb] wr ((((wr.drew.setCell ⟨rb,0,none⟩ (.string ⟨(modS i).toArray⟩)).setCell ⟨rb,1,none⟩ (.slice oo ops.length oc)).setCell ⟨rb,2,none⟩ (.slice lo lines.length lc)).setCell ⟨rb,3,none⟩ (.slice ko keys.length kc)):=(((((Kept.refl _ _).drew).setCell (p:=⟨rb,0,none⟩) (Or.inl (by simp)) _).setCell (p:=⟨rb,1,none⟩) (Or.inl (by simp)) _).setCell (p:=⟨rb,2,none⟩) (Or.inl (by simp)) _).setCell (p:=⟨rb,3,none⟩) (Or.inl (by simp)) _
    have hrl:rb < wr.heap.size:=zCqB hR4
    have hRF:Hid (((((wr.drew.setCell ⟨rb,0,none⟩ (.string ⟨(modS i).toArray⟩)).setCell ⟨rb,1,none⟩ (.slice oo ops.length oc)).setCell ⟨rb,2,none⟩ (.slice lo lines.length lc)).setCell ⟨rb,3,none⟩ (.slice ko keys.length kc)).heap[rb]?=some (.cells #[.string ⟨(modS i).toArray⟩,.slice oo ops.length oc,.slice lo lines.length lc,.slice ko keys.length kc] 26 (0,0))):=by show _=_;rw [zFg (zFg (zFg (zFg (w:=wr.drew) hR4 0 _) 1 _) 2 _) 3 _];rfl
    have hPost:zGX al i most w (.returned (.agg #[.string ⟨(modS i).toArray⟩,.slice oo ops.length oc,.slice lo lines.length lc,.slice ko keys.length kc])) ((((wr.drew.setCell ⟨rb,0,none⟩ (.string ⟨(modS i).toArray⟩)).setCell ⟨rb,1,none⟩ (.slice oo ops.length oc)).setCell ⟨rb,2,none⟩ (.slice lo lines.length lc)).setCell ⟨rb,3,none⟩ (.slice ko keys.length kc)):=by
     obtain ⟨o1,o2,o3,o4,o5⟩:=hB
     refine ⟨_,_,ops,lines,base,_,keys,ls,dn,rfl,m.tl,m.ll,zzF m.tale.ops hkR (by simp;omega),zzF m.tale.lines hkR (by simp;omega),by omega,?_,m.kl,zzF m.tale.keys hkR (by simp;omega)⟩
     have hw1:Below rb w wr:=hBw.trans (hBl.mono (by omega))
     rw [hord.2.2.2.2]
     exact hw1.trans (hkR.below (by omega) (by simp))
    have h1d:decide (kd < code.length)=false:=by simp;omega
    clear hord hR4 hkR m hBl hMI hBw hR0
    go_wp2_with fail
    go_cut [42] (fun a wx=>a=.bool false∧wx=wr.drew)
    case first=>
     go_region
     all_goals
      go_wp2_with fail
      go_meet
      exact ⟨rfl,rfl⟩
    case rest=>
     obtain ⟨rfl,rfl⟩:=hcut
     clear c0 c1
     go_wp2
     refine bodyPost_ret (zM5 _ _ rb _ _ _ _ (by simp) hRF.out) rfl hPost
end Go.Proofs.YtlkidmafomjhgaaGreatDoor.keep
