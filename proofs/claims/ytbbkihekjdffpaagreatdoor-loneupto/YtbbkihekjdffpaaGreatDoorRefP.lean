/- One text. -/
import Derived.Test.YtbbkihekjdffpaaGreatDoorRefM
import Derived.OneCell
namespace Go.Proofs.YtbbkihekjdffpaaGreatDoor
open Go.RowKit

def zep:List RM→List Pc→Option (List RM)
 | acc,[]=>some acc
 | acc,[k,c,v]=>if (valP v).2.2.2=true∧k.1=34∧c.1=58 then some (acc++[mkRM k v]) else none
 | acc,k::c::v::e::r=>if (valP v).2.2.2=true∧k.1=34∧c.1=58∧e.1=44 then zep (acc++[mkRM k v]) r else none
 | _,_=>none
def zTi (ps:List Pc):List Pc:=(ps.drop 1).take (ps.length - 2)
def objI (ps:List Pc):Option (List RM):=
 if ps.length < 2 then none else if (ps.headD (0,[])).1≠123 then none else if ((ps.drop (ps.length - 1)).headD (0,[])).1≠125 then none
 else if ps.length=2 then some [] else if (ps.length - 2) % 4≠3 then none else zep [] (zTi ps)

theorem zYi (ps:List Pc) (i:Nat) (h:i < ps.length):(z9c ps)[i*2]?=some (.int .u8 ((ps[i]).1:Int))∧(z9c ps)[i*2+1]?=some (.string ⟨(ps[i]).2.toArray⟩):=by
 induction ps generalizing i with
 | nil=>simp at h
 | cons m r ih=>
   have e:z9c (m::r)=zEN m++z9c r:=by simp [z9c]
   have hl:(zEN m).length=2:=rfl
   rw [e]
   cases i with
   | zero=>simp [zEN]
   | succ i=>
     obtain ⟨a,b⟩:=ih i (by simpa using h)
     refine ⟨?_,?_⟩
     · rw [List.getElem?_append_right (by omega),hl,show (i+1)*2 - 2=i*2 by omega,a];simp
     · rw [List.getElem?_append_right (by omega),hl,show (i+1)*2+1 - 2=i*2+1 by omega,b];simp
theorem zdd {w:World} {base g cap n:Nat} {xs:List Value} (h:w.ownsRow base 226 2 (.slice (some ⟨g,0,none⟩) n cap) n xs):
 ∀ j u,xs[j]?=some u→w.cell? ⟨g,j,none⟩=some u:=by
 intro j u hj
 have:=h.cells (g:=g) rfl j u hj
 by_cases h0:j=0
 · subst h0;simpa [Addr.add] using this
 · simpa [Addr.add,h0] using this

def rmOk (m:RM):Prop:=m.1.length≤8000000∧m.2.1 < 256∧m.2.2.1.length≤8000000
def zQd (s:ByteArray) (w:World) (e:Ending) (w':World):Prop:=
 Below w.heap.size w w'∧((∃ ms o cap,(zvF (lets s)).bind objI=some ms∧ms.length≤s.size∧(∀ m∈ms,rmOk m)∧RRow w' o ms∧e=.returned (.tuple #[.slice o ms.length cap,.bool true]))∨
  ((zvF (lets s)).bind objI=none∧e=.returned (.tuple #[.slice none 0 0,.bool false])))

theorem zGF:(Tryz.prog.info? 123).map (fun i=>(i.zero,i.size,i.bytes))=some (some (.agg #[.string ⟨#[]⟩,.int .u8 0,.string ⟨#[]⟩,.int .i64 0]),4,48):=by kernel_rfl
theorem z3BS (ps:List Pc) (j:Nat) (h:j+2 < ps.length):(zTi ps).drop j=ps[j+1]::(zTi ps).drop (j+1):=by
 have hl:j < (zTi ps).length:=by simp [zTi];omega
 rw [List.drop_eq_getElem_cons hl]
 congr 1
 simp [zTi]
theorem zjh (ps:List Pc) (j:Nat) (h:j+4 < ps.length):(zTi ps).drop j=ps[j+1]::ps[j+2]::ps[j+3]::(zTi ps).drop (j+3):=by
 rw [z3BS ps j (by omega),z3BS ps (j+1) (by omega),z3BS ps (j+2) (by omega)]
theorem zZx (mark:Nat) (s:ByteArray):(zLi mark s).1 < 256∧(zLi mark s).2.1.size≤s.size:=by
 unfold zLi
 have h0:(⟨#[]⟩:ByteArray).size≤s.size:=Nat.zero_le _
 split
 · exact ⟨by omega,Nat.le_refl _⟩
 · split
   · exact ⟨by omega,h0⟩
   · split
     · exact ⟨by omega,h0⟩
     · split
       · exact ⟨by omega,h0⟩
       · split
         · exact ⟨by omega,h0⟩
         · exact ⟨by omega,h0⟩
theorem zEr {acc:List RM} {k c v:Pc} {r:List Pc} (h:¬ ((valP v).2.2.2=true∧k.1=34∧c.1=58)):zep acc (k::c::v::r)=none:=by
 cases r with
 | nil=>rw [zep,if_neg h]
 | cons e r=>rw [zep,if_neg (fun hh=>h ⟨hh.1,hh.2.1,hh.2.2.1⟩)]
theorem z1Y {acc:List RM} {k c v e:Pc} {r:List Pc} (h:e.1≠44):zep acc (k::c::v::e::r)=none:=by
 rw [zep,if_neg (fun hh=>h hh.2.2.2)]
theorem z1h (l:List RM) (m:RM):zQE (l++[m])=zQE l++zqV m:=by simp [zQE]
theorem zNP {W:World} {a:Addr} {v:Value} (o:Obj) (hb:a.block < W.heap.size) (h:W.cell? a=some v):(W.alloc o).cell? a=some v:=(((Below.refl W.heap.size W).alloc (Nat.le_refl _) o).cell hb).trans h
theorem zzD {w:World} {base:Nat} {e:TypeId} {size:Nat} {v:Value} {n:Nat} {xs:List Value} (h:w.ownsRow base e size v n xs):(v=.slice none 0 0∧n=0)∨∃ g cap,v=.slice (some ⟨g,0,none⟩) n cap∧n≤cap∧base≤g∧g < w.heap.size:=by
 rcases h.2 with ⟨h1,h2⟩ | ⟨g,cap,cur,h1,hbg,hg,hnc,_⟩
 · exact Or.inl ⟨h1,h2⟩
 · exact Or.inr ⟨g,cap,h1,hnc,hbg,zBq hg⟩

set_option maxHeartbeats 4000000 in
set_option maxRecDepth 100000 in
theorem zws (s:ByteArray) (w:World) (hs:s.size≤2000000):
 Calls Tryz.prog 54 #[.string s] w fun e w'=>zQd s w e w':=by
 go_enter Tryz.func54,Tryz.ntmps54
 go_wp2_with fail
 refine (zGy s _ hs).mono ?_
 rintro e w1 ⟨hb1,⟨ps,v,hp,hpl,hok,hown,rfl⟩ | ⟨hp,rfl⟩⟩
 · rcases zzD hown with ⟨rfl,hn0⟩ | ⟨g,cap,rfl,hcap,hgb,hgw⟩
   · have hE:Hid ((zvF (lets s)).bind objI=none):=by
      rw [hp,List.length_eq_zero_iff.1 hn0];exact rfl
     clear hp hown hok
     go_wp2
     go_ret2
     exact ⟨hb1,Or.inr ⟨hE.out,rfl⟩⟩
   · have hcells:=zdd hown
     clear hown
     have hB:Hid ((zvF (lets s)).bind objI=objI ps):=by rw [hp];exact rfl
     clear hp
     by_cases h2:ps.length < 2
     · have hE:Hid ((zvF (lets s)).bind objI=none):=by rw [hB.out,objI,if_pos h2];exact rfl
       have h2':(ps.length:Int) < 2:=by omega
       clear hB hcells
       go_wp2
       go_ret2
       exact ⟨hb1,Or.inr ⟨hE.out,rfl⟩⟩
     · have h2':¬ (ps.length:Int) < 2:=by omega
       obtain ⟨x0,x1⟩:=zYi ps 0 (by omega)
       obtain ⟨y0,y1⟩:=zYi ps (ps.length - 1) (by omega)
       have c0:=hcells _ _ x0
       have c1:=hcells _ _ x1
       have d0:=hcells _ _ y0
       have d1:=hcells _ _ y1
       clear x0 x1 y0 y1
       rw [Nat.zero_mul] at c0 c1
       by_cases h123:(ps[0]).1=123
       · by_cases h125:(ps[ps.length - 1]).1=125
         · have hC:Hid ((zvF (lets s)).bind objI=if ps.length=2 then some [] else if (ps.length - 2) % 4≠3 then none else zep [] (zTi ps)):=by
            rw [hB.out,objI,if_neg h2,if_neg (by rw [show ps.headD (0,[])=ps[0] by cases ps with | nil=>simp at h2 | cons a t=>rfl];simpa using h123),if_neg (by rw [List.drop_eq_getElem_cons (show ps.length - 1 < ps.length by omega)];exact fun hh=>hh h125)];exact rfl
           have q1:(((ps[0]).1:Int) != 123)=false:=by simp;omega
           have q2:(((ps[ps.length - 1]).1:Int) != 125)=false:=by simp;omega
           clear hB h123 h125
           generalize ps[ps.length - 1]=z at*
           generalize ps[0]=z0 at*
           have hln:(((ps.length:Int) - 1).toNat)=ps.length - 1:=by omega
           have hl1:(0:Int)≤(ps.length:Int) - 1:=by omega
           have hl2:(ps.length:Int) - 1 < (ps.length:Int):=by omega
           have hl3:(1:Int)≤(ps.length:Int) - 1:=by omega
           have hl4:(ps.length:Int) - 1≤(cap:Int):=by omega
           by_cases h2e:ps.length=2
           · have hE:Hid ((zvF (lets s)).bind objI=some []):=by rw [hC.out,if_pos h2e];exact rfl
             rw [h2e] at d0 d1
             have d0':w1.cell? ⟨g,2,none⟩=some (.int .u8 (z.1:Int)):=d0
             have d1':w1.cell? ⟨g,3,none⟩=some (.string ⟨z.2.toArray⟩):=d1
             have hcp:(1:Int)≤(cap:Int):=by omega
             clear hC d0 d1 hcells hok
             go_wp2
             go_ret2
             exact ⟨hb1,Or.inl ⟨[],none,0,hE.out,by simp,by simp,fun h=>absurd rfl h,rfl⟩⟩
           · have r1:(((ps.length - 1 - 1:Nat):Int) == 0)=false:=by simp;omega
             by_cases h3:(ps.length - 2) % 4=3
             · have hM:Hid ((zvF (lets s)).bind objI=zep [] (zTi ps)):=by rw [hC.out,if_neg h2e,if_neg (fun hh=>hh h3)];exact rfl
               have r2:(((ps.length - 1 - 1:Nat):Int) % 4 != 3)=false:=by simp;omega
               have hz1w:=hb1.size
               clear hC
               go_wp2
               go_loopw [6,7] (fun v i wr=>∃ (j:Nat) (acc:List RM),i=.int .i64 (j:Int)∧(j=ps.length - 1∨(j < ps.length - 2∧(ps.length - 2 - j) % 4=3))∧acc.length≤j∧(∀ m∈acc,rmOk m)∧zep acc ((zTi ps).drop j)=(zvF (lets s)).bind objI∧wr.ownsRow w1.heap.size 123 4 v acc.length (zQE acc)∧Below w1.heap.size w1 wr) (fun _ i _=>ps.length - (intOf i).toNat)
               case atStart=>exact ⟨0,[],rfl,Or.inr ⟨by omega,by omega⟩,by simp,by simp,hM.out.symm,World.ownsRow_nil _ _ _ _,Below.refl _ _⟩
               case round=>
                obtain ⟨i0,hi,hz0,hz1,hz2⟩:=info_parts zGF
                obtain ⟨j,acc,rfl,hjj,hal,hmk,HR,hown,hbl⟩:=hrel
                have hR:Hid (zep acc ((zTi ps).drop j)=(zvF (lets s)).bind objI):=HR
                clear HR hM
                have hzz:=hbl.size
                have hrow:=zYv hown
                by_cases hjl:j < ps.length - 2
                · have hjl':(j:Int) < ((ps.length - 1 - 1:Nat):Int):=by omega
                  have hmod:(ps.length - 2 - j) % 4=3:=by omega
                  obtain ⟨⟨kn,ks⟩,⟨cn,cs⟩,⟨vm,vt⟩,hsp,hr4,okk,okv,k0,k1,e0,e1,f0,f1⟩:∃ kk cc vv:Pc,Hid ((zTi ps).drop j=kk::cc::vv::(zTi ps).drop (j+3))∧
                   Hid (j+3=ps.length - 2∨∃ ee:Pc,j+4 < ps.length - 2∧(zTi ps).drop (j+3)=ee::(zTi ps).drop (j+4)∧w1.cell? ⟨g,2+(j+3)*2,none⟩=some (.int .u8 (ee.1:Int))∧w1.cell? ⟨g,2+(j+3)*2+1,none⟩=some (.string ⟨ee.2.toArray⟩))∧
                   pcOk kk∧pcOk vv∧
                   wr.cell? ⟨g,2+j*2,none⟩=some (.int .u8 (kk.1:Int))∧wr.cell? ⟨g,2+j*2+1,none⟩=some (.string ⟨kk.2.toArray⟩)∧
                   wr.cell? ⟨g,2+(j+1)*2,none⟩=some (.int .u8 (cc.1:Int))∧wr.cell? ⟨g,2+(j+1)*2+1,none⟩=some (.string ⟨cc.2.toArray⟩)∧
                   wr.cell? ⟨g,2+(j+2)*2,none⟩=some (.int .u8 (vv.1:Int))∧wr.cell? ⟨g,2+(j+2)*2+1,none⟩=some (.string ⟨vv.2.toArray⟩):=by
                   obtain ⟨x0,x1⟩:=zYi ps (j+1) (by omega)
                   obtain ⟨y0,y1⟩:=zYi ps (j+2) (by omega)
                   obtain ⟨v0,v1⟩:=zYi ps (j+3) (by omega)
                   refine ⟨ps[j+1],ps[j+2],ps[j+3],zjh ps j (by omega),?_,hok _ (List.getElem_mem _),hok _ (List.getElem_mem _),
                    (hbl.cell (p:=⟨g,2+j*2,none⟩) hgw).trans (by rw [show 2+j*2=(j+1)*2 by omega];exact hcells _ _ x0),
                    (hbl.cell (p:=⟨g,2+j*2+1,none⟩) hgw).trans (by rw [show 2+j*2+1=(j+1)*2+1 by omega];exact hcells _ _ x1),
                    (hbl.cell (p:=⟨g,2+(j+1)*2,none⟩) hgw).trans (by rw [show 2+(j+1)*2=(j+2)*2 by omega];exact hcells _ _ y0),
                    (hbl.cell (p:=⟨g,2+(j+1)*2+1,none⟩) hgw).trans (by rw [show 2+(j+1)*2+1=(j+2)*2+1 by omega];exact hcells _ _ y1),
                    (hbl.cell (p:=⟨g,2+(j+2)*2,none⟩) hgw).trans (by rw [show 2+(j+2)*2=(j+3)*2 by omega];exact hcells _ _ v0),
                    (hbl.cell (p:=⟨g,2+(j+2)*2+1,none⟩) hgw).trans (by rw [show 2+(j+2)*2+1=(j+3)*2+1 by omega];exact hcells _ _ v1)⟩
                   by_cases hlast:j+3=ps.length - 2
                   · exact Or.inl hlast
                   · have hj4:j+4 < ps.length - 2:=by omega
                     obtain ⟨u0,u1⟩:=zYi ps (j+4) (by omega)
                     exact Or.inr ⟨ps[j+4],hj4,z3BS ps (j+3) (by omega),by rw [show 2+(j+3)*2=(j+4)*2 by omega];exact hcells _ _ u0,by rw [show 2+(j+3)*2+1=(j+4)*2+1 by omega];exact hcells _ _ u1⟩
                  simp only at k0 k1 e0 e1 f0 f1
                  have i2:((j:Int)+2) < ((ps.length - 1 - 1:Nat):Int):=by omega
                  have n2:((j:Int)+2).toNat=j+2:=by omega
                  have p2:(0:Int)≤(j:Int)+2:=by omega
                  clear hcells hok c0 c1 d0 d1 q1 q2 r1 r2 hln hl1 hl2 hl3 hl4
                  go_wp2_with fail
                  refine (z4Z vm ⟨vt.toArray⟩ _ (by show vt.toArray.size≤9000000;have:vt.length≤8000000:=okv.2;simp;omega) okv.1).mono ?_
                  rintro e w2 ⟨hb2,rfl⟩
                  have hvk:=zZx vm ⟨vt.toArray⟩
                  have hbl2:Below w1.heap.size w1 w2:=hbl.trans (hb2.mono hbl.size)
                  have hzz2:=hbl2.size
                  have own2:=zzF hown (Kept.of_below (S:=[]) hb2) (by simp)
                  have hgr:g < wr.heap.size:=by omega
                  have hg2:g < w2.heap.size:=by omega
                  replace k0:=(hb2.cell (p:=⟨g,2+j*2,none⟩) hgr).trans k0
                  replace k1:=(hb2.cell (p:=⟨g,2+j*2+1,none⟩) hgr).trans k1
                  replace e0:=(hb2.cell (p:=⟨g,2+(j+1)*2,none⟩) hgr).trans e0
                  replace e1:=(hb2.cell (p:=⟨g,2+(j+1)*2+1,none⟩) hgr).trans e1
                  have hvp:Hid (∀ x y z u,zLi vm ⟨vt.toArray⟩=(x,⟨y⟩,z,u)→valP (vm,vt)=(x,y.toList,z,u)):=by
                   intro x y z u hh
                   unfold valP
                   rw [hh]
                  generalize hq:zLi vm ⟨vt.toArray⟩=q at*
                  obtain ⟨vk,⟨va⟩,vn,vg⟩:=q
                  obtain ⟨vl,rfl⟩:∃ vl:List UInt8,va=vl.toArray:=⟨va.toList,by simp⟩
                  have hV:Hid (valP (vm,vt)=(vk,vl,vn,vg)):=by have:=hvp.out _ _ _ _ rfl;simp only at this;exact this
                  have hrmk:rmOk (ks,vk,vl,vn):=⟨okk.2,hvk.1,by
                   have h9:vl.toArray.size≤vt.toArray.size:=hvk.2
                   have h8:vt.length≤8000000:=okv.2
                   show vl.length≤8000000
                   simp at h9
                   omega⟩
                  have hMk:mkRM (kn,ks) (vm,vt)=(ks,vk,vl,vn):=by unfold mkRM;rw [hV.out]
                  clear f0 f1 hown hvp hq hvk okk okv
                  unfold zAj rMem
                  dsimp only
                  replace k0:=zNP (.cells #[.string ⟨#[]⟩,.int .u8 (vk:Int),.string ⟨vl.toArray⟩,.int .i64 vn] 123) hg2 k0
                  replace k1:=zNP (.cells #[.string ⟨#[]⟩,.int .u8 (vk:Int),.string ⟨vl.toArray⟩,.int .i64 vn] 123) hg2 k1
                  replace e0:=zNP (.cells #[.string ⟨#[]⟩,.int .u8 (vk:Int),.string ⟨vl.toArray⟩,.int .i64 vn] 123) hg2 e0
                  replace e1:=zNP (.cells #[.string ⟨#[]⟩,.int .u8 (vk:Int),.string ⟨vl.toArray⟩,.int .i64 vn] 123) hg2 e1
                  cases vg with
                  | false=>
                    have hE:Hid ((zvF (lets s)).bind objI=none):=by
                     rw [←hR.out,hsp.out,zEr (fun hh=>by rw [hV.out] at hh;exact absurd hh.1 (by simp))];exact rfl
                    clear hR hsp hV hr4 hMk hrmk
                    go_wp2
                    go_ret2
                    exact ⟨hb1.trans ((hbl2.alloc (by omega) _).mono hz1w),Or.inr ⟨hE.out,rfl⟩⟩
                  | true=>
                    have i1:((j:Int)+1) < ((ps.length - 1 - 1:Nat):Int):=by omega
                    have n1:((j:Int)+1).toNat=j+1:=by omega
                    have p1:(0:Int)≤(j:Int)+1:=by omega
                    by_cases hk34:kn=34
                    · have s1:((kn:Int) != 34)=false:=by simp;omega
                      by_cases hc58:cn=58
                      · have s2:((cn:Int) != 58)=false:=by simp;omega
                        have n3:((j:Int)+3).toNat=j+3:=by omega
                        have p3:(0:Int)≤(j:Int)+3:=by omega
                        have hcase:(¬ ((j:Int)+3) < ((ps.length - 1 - 1:Nat):Int)∧j+3=ps.length - 2∧Hid (zep (acc++[(ks,vk,vl,vn)]) ((zTi ps).drop (j+4))=(zvF (lets s)).bind objI))∨
                         (∃ (c4:Nat) (t4:List UInt8),((j:Int)+3) < ((ps.length - 1 - 1:Nat):Int)∧(w2.alloc (.cells #[.string ⟨#[]⟩,.int .u8 (vk:Int),.string ⟨vl.toArray⟩,.int .i64 vn] 123)).cell? ⟨g,2+(j+3)*2,none⟩=some (.int .u8 (c4:Int))∧(w2.alloc (.cells #[.string ⟨#[]⟩,.int .u8 (vk:Int),.string ⟨vl.toArray⟩,.int .i64 vn] 123)).cell? ⟨g,2+(j+3)*2+1,none⟩=some (.string ⟨t4.toArray⟩)∧
                          ((((c4:Int) != 44)=true∧Hid ((zvF (lets s)).bind objI=none))∨(((c4:Int) != 44)=false∧j+4 < ps.length - 2∧Hid (zep (acc++[(ks,vk,vl,vn)]) ((zTi ps).drop (j+4))=(zvF (lets s)).bind objI)))):=by
                         have hvt:(valP (vm,vt)).2.2.2=true:=by rw [hV.out]
                         rcases hr4.out with hlast | ⟨⟨en,es⟩,hj4,hd4,u0,u1⟩
                         · left
                           refine ⟨by omega,hlast,?_⟩
                           show _=_
                           rw [←hMk,←hR.out,hsp.out,List.drop_eq_nil_of_le (show (zTi ps).length≤j+4 by simp [zTi];omega),List.drop_eq_nil_of_le (show (zTi ps).length≤j+3 by simp [zTi];omega),zep,zep,if_pos ⟨hvt,hk34,hc58⟩]
                         · right
                           refine ⟨en,es,by omega,zNP _ hg2 ((hbl2.cell (p:=⟨g,2+(j+3)*2,none⟩) hgw).trans u0),zNP _ hg2 ((hbl2.cell (p:=⟨g,2+(j+3)*2+1,none⟩) hgw).trans u1),?_⟩
                           by_cases h44:en=44
                           · right
                             refine ⟨by simp;omega,hj4,?_⟩
                             show _=_
                             rw [←hMk,←hR.out,hsp.out,hd4,zep,if_pos ⟨hvt,hk34,hc58,h44⟩]
                           · left
                             refine ⟨by simp;omega,?_⟩
                             show _=_
                             rw [←hR.out,hsp.out,hd4,z1Y h44]
                        clear hR hsp hV hk34 hc58 hMk hr4
                        rcases hcase with ⟨i3,hl3,hE⟩ | ⟨c4,t4,i3,u0,u1,⟨s4,hE⟩ | ⟨s4,hl3,hE⟩⟩
                        · have i3d:decide (((j:Int)+3) < ((ps.length - 1 - 1:Nat):Int))=false:=by simp only [decide_eq_false_iff_not];exact i3
                          clear i3
                          have hrow2:=zYv own2
                          go_wp2_with (at_builtin;refine wpList_append_own _ rfl _ _ 118 rfl w1.heap.size 123 i0 (.agg #[.string ⟨#[]⟩,.int .u8 0,.string ⟨#[]⟩,.int .i64 0]) 4 48 Tryz.underlying118 hi hz0 hz1 hz2 rfl (by decide) _ _ _ rfl ((own2.alloc _).alloc _) ⟨w2.heap.size+1,0,none⟩ 1 1 (zqV (ks,vk,vl,vn)) rfl rfl ?c1 ?c2 ?c3 ?c4 ?c5 ?_)
                          case c1=>
                           have:=zri (w2.alloc (.cells #[.string ⟨ks.toArray⟩,.int .u8 (vk:Int),.string ⟨vl.toArray⟩,.int .i64 vn] 123)) (.string ⟨ks.toArray⟩) (.int .u8 (vk:Int)) (.string ⟨vl.toArray⟩) (.int .i64 vn) 123
                           simpa [zqV] using this
                          case c2=>
                           intro u hu
                           simp [zqV] at hu
                           rcases hu with rfl | rfl | rfl | rfl <;> rfl
                          case c3=>unfold maxLen;omega
                          case c4=>omega
                          case c5=>simp;omega
                          intro v5 w5 own5 grow5 _
                          have hb5:Below w1.heap.size w1 w5:=Below.grown' ((hbl2.alloc (by omega) _).alloc (by simp;omega) _) grow5 hrow2
                          rw [←z1h] at own5
                          have own6:w5.ownsRow w1.heap.size 123 4 v5 (acc++[(ks,vk,vl,vn)]).length (zQE (acc++[(ks,vk,vl,vn)])):=by simpa using own5
                          have hmk':∀ m∈acc++[(ks,vk,vl,vn)],rmOk m:=by
                           intro m hm
                           rcases List.mem_append.1 hm with hm | hm
                           · exact hmk m hm
                           · simp at hm;subst hm;exact hrmk
                          have hal':(acc++[(ks,vk,vl,vn)]).length≤j+4:=by simp;omega
                          clear own5 grow5 hrow2 own2 hmk
                          generalize acc++[(ks,vk,vl,vn)]=acc' at*
                          go_wp2
                          go_roundw
                          case rel=>exact ⟨j+4,acc',by go_num,by omega,hal',hmk',hE.out,own6,hb5⟩
                          case measure=>simp [intOf];omega
                        · clear hrmk
                          go_wp2
                          go_ret2
                          exact ⟨hb1.trans ((hbl2.alloc (by omega) _).mono hz1w),Or.inr ⟨hE.out,rfl⟩⟩
                        · skip
                          have hrow2:=zYv own2
                          go_wp2_with (at_builtin;refine wpList_append_own _ rfl _ _ 118 rfl w1.heap.size 123 i0 (.agg #[.string ⟨#[]⟩,.int .u8 0,.string ⟨#[]⟩,.int .i64 0]) 4 48 Tryz.underlying118 hi hz0 hz1 hz2 rfl (by decide) _ _ _ rfl ((own2.alloc _).alloc _) ⟨w2.heap.size+1,0,none⟩ 1 1 (zqV (ks,vk,vl,vn)) rfl rfl ?c1 ?c2 ?c3 ?c4 ?c5 ?_)
                          case c1=>
                           have:=zri (w2.alloc (.cells #[.string ⟨ks.toArray⟩,.int .u8 (vk:Int),.string ⟨vl.toArray⟩,.int .i64 vn] 123)) (.string ⟨ks.toArray⟩) (.int .u8 (vk:Int)) (.string ⟨vl.toArray⟩) (.int .i64 vn) 123
                           simpa [zqV] using this
                          case c2=>
                           intro u hu
                           simp [zqV] at hu
                           rcases hu with rfl | rfl | rfl | rfl <;> rfl
                          case c3=>unfold maxLen;omega
                          case c4=>omega
                          case c5=>simp;omega
                          intro v5 w5 own5 grow5 _
                          have hb5:Below w1.heap.size w1 w5:=Below.grown' ((hbl2.alloc (by omega) _).alloc (by simp;omega) _) grow5 hrow2
                          rw [←z1h] at own5
                          have own6:w5.ownsRow w1.heap.size 123 4 v5 (acc++[(ks,vk,vl,vn)]).length (zQE (acc++[(ks,vk,vl,vn)])):=by simpa using own5
                          have hmk':∀ m∈acc++[(ks,vk,vl,vn)],rmOk m:=by
                           intro m hm
                           rcases List.mem_append.1 hm with hm | hm
                           · exact hmk m hm
                           · simp at hm;subst hm;exact hrmk
                          have hal':(acc++[(ks,vk,vl,vn)]).length≤j+4:=by simp;omega
                          clear own5 grow5 hrow2 own2 hmk
                          generalize acc++[(ks,vk,vl,vn)]=acc' at*
                          go_wp2
                          go_roundw
                          case rel=>exact ⟨j+4,acc',by go_num,by omega,hal',hmk',hE.out,own6,hb5⟩
                          case measure=>simp [intOf];omega
                      · have s2:((cn:Int) != 58)=true:=by simp;omega
                        have hE:Hid ((zvF (lets s)).bind objI=none):=by
                         rw [←hR.out,hsp.out,zEr (fun hh=>hc58 hh.2.2)];exact rfl
                        clear hR hsp hV hr4 hMk hrmk
                        go_wp2
                        go_ret2
                        exact ⟨hb1.trans ((hbl2.alloc (by omega) _).mono hz1w),Or.inr ⟨hE.out,rfl⟩⟩
                    · have s1:((kn:Int) != 34)=true:=by simp;omega
                      have hE:Hid ((zvF (lets s)).bind objI=none):=by
                       rw [←hR.out,hsp.out,zEr (fun hh=>hk34 hh.2.1)];exact rfl
                      clear hR hsp hV hr4 hMk hrmk
                      go_wp2
                      go_ret2
                      exact ⟨hb1.trans ((hbl2.alloc (by omega) _).mono hz1w),Or.inr ⟨hE.out,rfl⟩⟩
                · have hjn:j=ps.length - 1:=by omega
                  have hE:Hid ((zvF (lets s)).bind objI=some acc):=by
                   rw [←hR.out,List.drop_eq_nil_of_le (by simp [zTi];omega)];exact rfl
                  have hjl':¬ (j:Int) < ((ps.length - 1 - 1:Nat):Int):=by omega
                  clear hR
                  rcases zzD hown with ⟨rfl,hn0⟩ | ⟨g5,cap5,rfl,hcap5,hgb5,hgw5⟩
                  all_goals
                   go_wp2
                   go_ret2
                  · exact ⟨hb1.trans (hbl.mono hz1w),Or.inl ⟨acc,none,0,hE.out,by omega,hmk,fun h=>absurd (List.length_eq_zero_iff.1 hn0) h,by rw [hn0];rfl⟩⟩
                  · refine ⟨hb1.trans (hbl.mono hz1w),Or.inl ⟨acc,_,cap5,hE.out,by omega,hmk,fun _=>⟨g5,rfl,hgw5,?_⟩,rfl⟩⟩
                    intro i u hu
                    have:=hown.cells (g:=g5) rfl i u hu
                    by_cases h0:i=0
                    · subst h0;simpa [Addr.add] using this
                    · simpa [Addr.add,h0] using this
             · have hE:Hid ((zvF (lets s)).bind objI=none):=by rw [hC.out,if_neg h2e,if_pos h3];exact rfl
               have r2:(((ps.length - 1 - 1:Nat):Int) % 4 != 3)=true:=by simp;omega
               clear hC hcells hok
               go_wp2
               go_ret2
               exact ⟨hb1,Or.inr ⟨hE.out,rfl⟩⟩
         · have hE:Hid ((zvF (lets s)).bind objI=none):=by
            rw [hB.out,objI,if_neg h2,if_neg (by rw [show ps.headD (0,[])=ps[0] by cases ps with | nil=>simp at h2 | cons a t=>rfl];simpa using h123),if_pos (by rw [List.drop_eq_getElem_cons (show ps.length - 1 < ps.length by omega)];exact h125)];exact rfl
           have q1:(((ps[0]).1:Int) != 123)=false:=by simp;omega
           have q2:(((ps[ps.length - 1]).1:Int) != 125)=true:=by simp;omega
           clear hB h123 h125
           generalize ps[ps.length - 1]=z at*
           generalize ps[0]=z0 at*
           have hln:(((ps.length:Int) - 1).toNat)=ps.length - 1:=by omega
           have hl1:(0:Int)≤(ps.length:Int) - 1:=by omega
           have hl2:(ps.length:Int) - 1 < (ps.length:Int):=by omega
           go_wp2
           go_ret2
           exact ⟨hb1,Or.inr ⟨hE.out,rfl⟩⟩
       · have hE:Hid ((zvF (lets s)).bind objI=none):=by
          rw [hB.out,objI,if_neg h2,if_pos (by rw [show ps.headD (0,[])=ps[0] by cases ps with | nil=>simp at h2 | cons a t=>rfl];exact h123)];exact rfl
         have q1:(((ps[0]).1:Int) != 123)=true:=by simp;omega
         have hl0:(0:Int) < (ps.length:Int):=by omega
         clear hB h123
         generalize ps[0]=z0 at*
         go_wp2
         go_ret2
         exact ⟨hb1,Or.inr ⟨hE.out,rfl⟩⟩
 · have hE:Hid ((zvF (lets s)).bind objI=none):=by rw [hp];exact rfl
   clear hp
   go_wp2
   go_ret2
   exact ⟨hb1,Or.inr ⟨hE.out,rfl⟩⟩
end Go.Proofs.YtbbkihekjdffpaaGreatDoor
