/- Several texts in one. -/
import Derived.Test.YtbbkihekjdffpaaGreatDoorJdT
import Derived.Test.YtbbkihekjdffpaaGreatDoorRefT
import Derived.Test.YtbbkihekjdffpaaGreatDoorSrchRX
set_option maxHeartbeats 8000000
set_option maxRecDepth 100000
namespace Go.Proofs.YtbbkihekjdffpaaGreatDoor
open Go.RowKit

def zxw (model:List UInt8) (t:ByteArray) (w:World) (e:Ending) (w':World):Prop:=
 Below w.heap.size w w'∧((z3t model modTab=false∧e=.returned (.tuple #[.slice none 0 0,.int .i64 0,.int .i64 0,.int .i64 1]))∨
  (z3t model modTab=true∧((∃ ops v,zvj model (linesP (lets t)) 0 []=.inl ops∧ops.length≤129∧w'.ownsRow w.heap.size 74 10 v ops.length (opsRow ops)∧e=.returned (.tuple #[v,.int .i64 0,.int .i64 0,.int .i64 0]))∨
   (∃ l r,zvj model (linesP (lets t)) 0 []=.inr (l,r)∧e=.returned (.tuple #[.slice none 0 0,.int .i64 l,.int .i64 r,.int .i64 0])))))

theorem zYz1 {w:World} {base:Nat} {v:Value} {l:List (List UInt8)} (h:w.ownsRow base 9 1 v l.length (z8E l)):
 ∃ oa cap,v=.slice oa l.length cap∧(l≠[]→∃ g,oa=some ⟨g,0,none⟩∧g < w.heap.size∧∀ j x,l[j]?=some x→w.cell? ⟨g,j,none⟩=some (.string ⟨x.toArray⟩)):=by
 rcases zzD h with ⟨rfl,h0⟩ | ⟨g,cap,rfl,_,_,hg⟩
 · exact ⟨none,0,by rw [h0],fun hne=>absurd (List.length_eq_zero_iff.1 h0) hne⟩
 · refine ⟨_,_,rfl,fun _=>⟨g,rfl,hg,?_⟩⟩
   intro j x hj
   have:=h.cells (g:=g) rfl j (.string ⟨x.toArray⟩) (by simp [z8E,hj])
   by_cases h0:j=0
   · subst h0;simpa [Addr.add] using this
   · simpa [Addr.add,h0] using this

theorem ze8 (t model:ByteArray) (w:World) (hm:Mods w) (hng:10≤w.heap.size) (ht:t.size≤2000000) (hml:model.size≤2000000):
 Calls Tryz.prog 10 #[.string t,.string model] w fun e w'=>zxw model.data.toList t w e w':=by
 go_enter Tryz.func10,Tryz.ntmps10
 go_wp2_with fail
 refine (zJJ model _ hm hng).mono ?_
 rintro e w0 ⟨rfl,hw0⟩
 have hw0':=hw0.symm
 clear hw0
 subst hw0'
 rw [zYW]
 cases hkn:z3t model.data.toList modTab with
 | false=>
   have HK:Hid (z3t model.data.toList modTab=false):=hkn
   clear hkn
   go_wp2
   exact bodyPost_ret (v:=.tuple #[.slice none 0 0,.int .i64 0,.int .i64 0,.int .i64 1]) (by simp [results,Tryz.results10,go_sem]) rfl ⟨Below.refl _ _,Or.inl ⟨HK.out,rfl⟩⟩
 | true=>
   have HK:Hid (z3t model.data.toList modTab=true):=hkn
   clear hkn
   go_wp2_with fail
   refine (z7F t _ ht).mono ?_
   rintro e w1 ⟨hb1,v1,hll,hlx,hown1,rfl⟩
   obtain ⟨oa,cap,rfl,hrow⟩:=zYz1 hown1
   have hz1:=hb1.size
   clear hown1
   generalize hL:linesP (lets t)=L at*
   go_wp2
   go_loopw [9,11] (fun v i wr=>∃ (k:Nat) (ops:List OpV),i=.int .i64 (k:Int)∧k≤L.length∧k≤128∧ops.length≤k∧(∀ p∈ops,p.name.length≤8000000)∧zvj model.data.toList (L.drop k) k ops=zvj model.data.toList L 0 []∧wr.ownsRow w1.heap.size 74 10 v ops.length (opsRow ops)∧Below w1.heap.size w1 wr) (fun _ i _=>L.length - (intOf i).toNat)
   case atStart=>exact ⟨0,[],rfl,by omega,by omega,by simp,by simp,rfl,World.ownsRow_nil _ _ _ _,Below.refl _ _⟩
   case round=>
    obtain ⟨k,ops,rfl,hkl,hk8,hok,hon,HR,hown,hbl⟩:=hrel
    have hR:Hid (zvj model.data.toList (L.drop k) k ops=zvj model.data.toList L 0 []):=HR
    clear HR
    have hzz:=hbl.size
    by_cases hin:k < L.length
    · have hin':(k:Int) < (L.length:Int):=by omega
      obtain ⟨g,rfl,hg,hc⟩:=hrow (by intro h;rw [h] at hin;simp at hin)
      have hck:=(hbl.cell (p:=⟨g,k,none⟩) hg).trans (hc k _ (List.getElem?_eq_getElem hin))
      have hxl:=hlx _ (List.getElem_mem hin)
      have hD:Hid (L.drop k=L[k]::L.drop (k+1)):=List.drop_eq_getElem_cons hin
      generalize L[k]=x at*
      have hk0:(0:Int)≤(k:Int)+1:=by omega
      have hwrap:IntKind.i64.wrap ((k:Int)+1)=(k:Int)+1:=z4A (by omega) (by omega)
      by_cases h128:k=128
      · have hE:Hid (zvj model.data.toList L 0 []=.inr ((k:Int)+1,1)):=by
         rw [←hR.out,hD.out,zvj,if_pos (by omega)];exact rfl
        obtain ⟨va,vc,rfl⟩:=zIW hown
        have h129:(128:Int) < (k:Int)+1:=by omega
        clear hR hD h128
        go_wp2_with fail
        refine (z6x model ⟨x.toArray⟩ ((k:Int)+1) h129 va ops.length vc _).mono ?_
        rintro e w2 ⟨hw2,rfl⟩
        have hw2':=hw2.symm
        clear hw2
        subst hw2'
        go_wp2
        exact bodyPost_ret (v:=.tuple #[.slice none 0 0,.int .i64 ((k:Int)+1),.int .i64 1,.int .i64 0]) (by simp [results,Tryz.results10,go_sem]) rfl ⟨hb1.trans (hbl.mono hz1),Or.inr ⟨HK.out,Or.inr ⟨_,_,by rw [hL];exact hE.out,rfl⟩⟩⟩
      · have hS:Hid (zvj model.data.toList L 0 []=(match z9q model.data.toList ops ⟨x.toArray⟩ ((k:Int)+1) with
         | (e,none)=>.inr ((k:Int)+1,e)
         | (_,some ops')=>zvj model.data.toList (L.drop (k+1)) (k+1) ops')):=by
         rw [←hR.out,hD.out,zvj,if_neg (by omega)];exact rfl
        clear hR hD
        go_wp2_with fail
        refine (zJ7 model ⟨x.toArray⟩ ((k:Int)+1) w1.heap.size _ ops wr hown hbl.size (by omega) (by omega) (by show x.toArray.size≤_;simp;omega) hml hon).mono ?_
        rintro e w2 ⟨hb2,⟨ops',v',hev,hol',hon',hown',rfl⟩ | ⟨r,hev,hr0,rfl⟩⟩
        · have hX:Hid (zvj model.data.toList (L.drop (k+1)) (k+1) ops'=zvj model.data.toList L 0 []):=by rw [hS.out,hev];exact rfl
          clear hS hev hown hon
          go_wp2
          go_roundw
          case rel=>exact ⟨k+1,ops',by go_num,by omega,by omega,by omega,hon',hX.out,hown',hbl.trans hb2⟩
          case measure=>simp [intOf];omega
        · have hX:Hid (zvj model.data.toList L 0 []=.inr ((k:Int)+1,r)):=by rw [hS.out,hev];exact rfl
          clear hS hev hown hon
          go_wp2
          exact bodyPost_ret (v:=.tuple #[.slice none 0 0,.int .i64 ((k:Int)+1),.int .i64 r,.int .i64 0]) (by simp [results,Tryz.results10,go_sem]) rfl ⟨hb1.trans ((hbl.trans hb2).mono hz1),Or.inr ⟨HK.out,Or.inr ⟨_,_,by rw [hL];exact hX.out,rfl⟩⟩⟩
    · have hin':¬ (k:Int) < (L.length:Int):=by omega
      have hX:Hid (zvj model.data.toList L 0 []=.inl ops):=by rw [←hR.out,List.drop_eq_nil_of_le (by omega),zvj];exact rfl
      clear hR
      go_wp2
      refine bodyPost_ret (v:=.tuple #[_,.int .i64 0,.int .i64 0,.int .i64 0]) (by simp [results,Tryz.results10,go_sem];rfl) rfl ⟨hb1.trans (hbl.mono hz1),Or.inr ⟨HK.out,Or.inl ⟨ops,_,by rw [hL];exact hX.out,by omega,⟨hown.1,?_⟩,rfl⟩⟩⟩
      rcases hown.2 with h | ⟨g,cap,cur,h1,hbg,r⟩
      · exact .inl h
      · exact .inr ⟨g,cap,cur,h1,by omega,r⟩

theorem zzs (t:ByteArray):lets t=nats t.data.toList:=rfl
end Go.Proofs.YtbbkihekjdffpaaGreatDoor
namespace Go.Proofs.YtbbkihekjdffpaaGreatDoor.jd
open Go.RowKit
open srch (vAg opAg tI OAt zOu idsT sRej)
def sUnk:List UInt8:=[85,78,75,78,79,87,78,10]
def sOrdJ:List UInt8:=[79,75,32,111,114,100,101,114,61]
def zRS:List UInt8:=[73,76,76,69,71,65,76,32,112,97,114,116,61]
def z5z:List UInt8:=[32,108,111,110,103,101,115,116,61]
inductive Fit (m:List UInt8) (ops:List OpV) (b:Int) (ans:List UInt8):Prop
 | unk (e:ans=sUnk) (h:∀ L kn,Cfs m ops (roomP ops.length) L kn→min b 1000000 < 2*((ops.length:Int)+1)*(L.length:Int))
 | ok (Q:List OpV) (pl:List Nat) (cE:Cf) (e:ans=sOrdJ++idsT Q++[10]) (hQ:zrE ops pl Q) (hn:pl.Nodup) (hl:Q.length≤1000) (ho:z8Z Q) (ha:zdl (List.range ops.length) ops (cf0 m ops) pl=some cE) (hw:z0d ops cE.1=true)
 | ill (Q:List OpV) (pl:List Nat) (cE:Cf) (e:ans=zRS++[45]++z5z++idsT Q++[10]) (hQ:zrE ops pl Q) (hn:pl.Nodup) (hl:Q.length≤1000) (ha:zdl (List.range ops.length) ops (cf0 m ops) pl=some cE) (hk:∀ L kn,Cfs m ops (roomP ops.length) L kn→kn=true→isP ops L=false∧pl.length=mostP L)
theorem zOe (m:List UInt8) (hm:lone3 m) (k:List UInt8) (va:Option Addr) (vn vc:Nat) (w:World):
 Calls Tryz.prog 16 #[.string ⟨m.toArray⟩,.agg #[.string ⟨k.toArray⟩,.slice va vn vc]] w fun e w'=>e=.returned (.string ⟨#[45]⟩)∧Below w.heap.size w w':=by
 have hky:=fun w=>zYt m hm w
 go_enter Tryz.func16,Tryz.ntmps16
 go_wp2_with fail
 refine (hky _).mono ?_
 rintro e w1 ⟨rfl,rfl⟩
 go_wp2_with fail
 go_ret
 exact ⟨rfl,(Below.refl _ _).alloc (Nat.le_refl _) _⟩
theorem zGf {w:World} {base:Nat} {a:Option Addr} {c:Nat} {ops:List OpV} (h:w.ownsRow base 74 10 (.slice a ops.length c) ops.length (opsRow ops)):OAt w a ops:=by
 intro hne
 rcases zzD h with ⟨_,e⟩ | ⟨g,cap,e,_,hb,hg⟩
 · exact absurd (List.length_eq_zero_iff.1 e) hne
 · injection e with e
   subst e
   exact ⟨g,rfl,hg,fun j u hj=>by have:=h.cells (g:=g) rfl j u hj;rw [Addr.add_lit,Nat.zero_add] at this;exact this⟩
theorem zDu (m t:List UInt8) (hm:lone3 m) (b:Int) (l r:Int) (hr:zvj m (linesP (nats t)) 0 []=.inr (l,r)) (hr0:r≠0) (hlr:0≤l∧l≤129∧1≤r∧r≤8) (w:World) (hmod:Mods w) (hng:10≤w.heap.size) (ht:t.length≤2000000):
 Calls Tryz.prog 6 #[.string ⟨t.toArray⟩,.string ⟨m.toArray⟩,.int .i64 b,.string ⟨(sRej l r).toArray⟩] w fun e w'=>e=.returned (.bool true)∧Below w.heap.size w w':=by
 have hml:m.length≤8:=by rcases hm with rfl | rfl | rfl <;> decide
 have hrd:=ze8 ⟨t.toArray⟩ ⟨m.toArray⟩ w hmod hng (by show t.toArray.size≤_;simpa using ht) (by show m.toArray.size≤_;simp;omega)
 have hkm:z3t m modTab=true:=by rcases hm with rfl | rfl | rfl <;> decide
 have hD1:=fun w=>zM7 l w (by omega) (by omega)
 have hD2:=fun w=>zM7 r w (by omega) (by omega)
 have hl1:=zCU l (by omega) (by omega)
 have hl2:=zCU r (by omega) (by omega)
 have hba:=srch.rej_ba l r
 have hr0':(r == 0)=false:=by simpa using hr0
 generalize hRJ:sRej l r=rj at*
 generalize Lib.itoa l=sl at*
 generalize Lib.itoa r=sr at*
 clear hRJ
 go_enter Tryz.func6,Tryz.ntmps6
 go_wp2_with fail
 refine hrd.mono ?_
 rintro e w1 ⟨hb1,hcs⟩
 obtain rfl:e=.returned (.tuple #[.slice none 0 0,.int .i64 l,.int .i64 r,.int .i64 0]):=by
  rcases hcs with ⟨h,_⟩ | ⟨_,⟨ops,v,h,_⟩ | ⟨l',r',h,he⟩⟩
  · rw [hkm] at h;cases h
  · rw [show lets (⟨t.toArray⟩:ByteArray)=nats t from by rw [zzs],hr] at h;cases h
  · rw [show lets (⟨t.toArray⟩:ByteArray)=nats t from by rw [zzs],hr] at h
    injection h with h;injection h with h1 h2;subst h1;subst h2;exact he
 have HB1:Hid _:=hb1
 clear hb1 hcs hrd
 go_wp2_with fail
 refine (hD1 _).mono ?_
 rintro e w2 ⟨rfl,hb2⟩
 go_wp2_with fail
 refine (hD2 _).mono ?_
 rintro e w3 ⟨rfl,hb3⟩
 have HB3:Hid (Below w.heap.size w w3):=HB1.out.trans ((hb2.trans (hb3.mono hb2.size)).mono HB1.out.size)
 clear hb2 hb3 hD1 hD2
 go_wp2_with fail
 go_ret
 exact ⟨rfl,HB3.out⟩
structure ReadJ (m t:List UInt8) (ops:List OpV):Prop where
 rd:zvj m (linesP (nats t)) 0 []=.inl ops
 kn:Known ops
 key:∀ o∈ops,o.key=[]
theorem zw5 (m t:List UInt8) (hm:lone3 m) (b:Int) (ops:List OpV) (hR:ReadJ m t ops) (ans:List UInt8) (hans:ans.length≤9000000) (hF:Fit m ops b ans) (w:World) (hmod:Mods w) (hng:10≤w.heap.size) (ht:t.length≤2000000):
 Calls Tryz.prog 6 #[.string ⟨t.toArray⟩,.string ⟨m.toArray⟩,.int .i64 b,.string ⟨ans.toArray⟩] w fun e w'=>e=.returned (.bool true)∧Below w.heap.size w w':=by
 have hml:m.length≤8:=by rcases hm with rfl | rfl | rfl <;> decide
 have hrd:=ze8 ⟨t.toArray⟩ ⟨m.toArray⟩ w hmod hng (by show t.toArray.size≤_;simpa using ht) (by show m.toArray.size≤_;simp;omega)
 have hkm:z3t m modTab=true:=by rcases hm with rfl | rfl | rfl <;> decide
 go_enter Tryz.func6,Tryz.ntmps6
 go_wp2_with fail
 refine hrd.mono ?_
 rintro e w1 ⟨hb1,hcs⟩
 obtain ⟨v,hown,rfl⟩:∃ v,w1.ownsRow w.heap.size 74 10 v ops.length (opsRow ops)∧e=.returned (.tuple #[v,.int .i64 0,.int .i64 0,.int .i64 0]):=by
  rcases hcs with ⟨h,_⟩ | ⟨_,⟨ops',v,h,_,ho,he⟩ | ⟨l',r',h,he⟩⟩
  · rw [hkm] at h;cases h
  · rw [show lets (⟨t.toArray⟩:ByteArray)=nats t from by rw [zzs],hR.rd] at h
    injection h with h;subst h;exact ⟨v,ho,he⟩
  · rw [show lets (⟨t.toArray⟩:ByteArray)=nats t from by rw [zzs],hR.rd] at h;cases h
 obtain ⟨oa,oc,rfl⟩:=zIW hown
 have HO:Hid (OAt w1 oa ops):=zGf hown
 have HB1:Hid _:=hb1
 have hpt:=zYO m hm oa oc ops w1 HO.out hR.kn.few hR.key
 clear hb1 hcs hrd hown
 go_wp2_with fail
 refine hpt.mono ?_
 rintro e w2 ⟨a2,c2,va,vc,rfl,hP2,hb2⟩
 have HO2:Hid (OAt w2 oa ops):=HO.out.below hb2
 have HB2:Hid (Below w.heap.size w w2):=HB1.out.trans (hb2.mono HB1.out.size)
 have HP2:Hid _:=hP2
 have htr:=zT9 m hm.five oa oc ops w1.heap.size a2 va c2 vc w2 HO2.out hP2 hR.kn.few hR.kn.ok
 clear hpt hb2 hP2
 go_wp2_with fail
 refine htr.mono ?_
 rintro e w3 ⟨L,kn,a3,c3,hC,hLl,rfl,hV3,hb3⟩
 have HO3:Hid (OAt w3 oa ops):=HO2.out.below hb3
 have HB3:Hid (Below w.heap.size w w3):=HB2.out.trans (hb3.mono HB2.out.size)
 have HP3:Hid (OneP w3 w1.heap.size a2 c2 va vc (List.range ops.length)):=HP2.out.on hb3
 have HV3:Hid (w3.ownsRow w2.heap.size 48 4 (.slice a3 1 c3) 1 (zf63 kn (isP ops L) (mostP L) L.length)):=hV3
 have HC:Hid _:=hC
 clear htr hb3 hV3 hC HO2 HP2 HB2 HO HB1
 have hfew:=hR.kn.few
 rcases hF with ⟨rfl,hU⟩ | ⟨Q,pl,cE,hE,hQ,hn,hQl,hor,hal,hwh⟩ | ⟨Q,pl,cE,hE,hQ,hn,hQl,hal,hkk⟩
 · have hlt:=hU L kn HC.out
   have hw1:IntKind.i64.wrap ((ops.length:Int)+1)=(ops.length:Int)+1:=j64 (by omega) (by omega)
   have hw2:IntKind.i64.wrap (2*((ops.length:Int)+1))=2*((ops.length:Int)+1):=j64 (by omega) (by omega)
   have hmul:0≤2*((ops.length:Int)+1)*(L.length:Int)∧2*((ops.length:Int)+1)*(L.length:Int)≤2002*600000:=by
    refine ⟨Int.mul_nonneg (by omega) (by omega),?_⟩
    exact Int.mul_le_mul (by omega) (by omega) (by omega) (by omega)
   have hw3:IntKind.i64.wrap (2*((ops.length:Int)+1)*(L.length:Int))=2*((ops.length:Int)+1)*(L.length:Int):=j64 (by omega) (by omega)
   have hlt':decide (min b 1000000 < 2*((ops.length:Int)+1)*(L.length:Int))=true:=by simpa using hlt
   unfold sUnk
   go_wp2_with fail
   go_ret
   exact ⟨rfl,HB3.out⟩
 · have hn1:(ans == [85,78,75,78,79,87,78,10])=false:=by
    rw [hE,beq_eq_false_iff_ne];unfold sOrdJ;intro e;simp at e
   have hbg:=fun w=>zUm ans sOrdJ (idsT Q) hE hans w
   have hlg:=fun w ho=>zMx m hm oa oc ops Q pl cE w ho hR.kn hR.key hQ hn hQl hor hal hwh
   unfold sOrdJ at hbg
   clear hE
   go_wp2_with fail
   refine (hbg _).mono ?_
   rintro e w4 ⟨rfl,hb4⟩
   have hlg4:=hlg w4 (HO3.out.below hb4)
   have HB4:Hid (Below w.heap.size w w4):=HB3.out.trans (hb4.mono HB3.out.size)
   clear hbg hlg hb4
   go_wp2_with fail
   refine hlg4.mono ?_
   rintro e w5 ⟨rfl,hb5⟩
   have HB5:Hid (Below w.heap.size w w5):=HB4.out.trans (hb5.mono HB4.out.size)
   clear hlg4 hb5
   go_wp2_with fail
   go_ret
   exact ⟨rfl,HB5.out⟩
 · have hn1:(ans == [85,78,75,78,79,87,78,10])=false:=by
    rw [hE,beq_eq_false_iff_ne];unfold zRS;intro e;simp at e
   have hnb:ans.take sOrdJ.length≠sOrdJ:=by
    rw [hE];unfold zRS sOrdJ;intro e;simp at e
   have hbn:=fun w=>zgE ans sOrdJ hnb hans (by decide) w
   have hE2:ans=(zRS++[45]++z5z)++idsT Q++[10]:=hE
   have hbg:=fun w=>zUm ans (zRS++[45]++z5z) (idsT Q) hE2 hans w
   rw [show zRS++[45]++z5z=[73,76,76,69,71,65,76,32,112,97,114,116,61,45,32,108,111,110,103,101,115,116,61] from rfl] at hbg
   have hnm:=fun w=>zOe m hm [] va ops.length vc w
   have hls:=fun w ho hv=>zNB m hm.five oa va oc vc ops Q pl kn (isP ops L) (mostP L) L.length cE w ho hv hR.kn hQ hn hQl (hkk L kn HC.out) hal
   unfold sOrdJ at hbn
   unfold vdAg at hls
   obtain ⟨g,rfl,hg,_,p0,p1,_⟩:=HP3.out.cells
   rw [List.length_range] at p1
   obtain ⟨g3,rfl,hg3⟩:∃ g3,a3=some ⟨g3,0,none⟩∧g3 < w3.heap.size:=by
    rcases zzD HV3.out with ⟨_,e⟩ | ⟨g3,cap,e,_,_,h⟩
    · omega
    · injection e with e;exact ⟨g3,e,h⟩
   have hvd:∀ (j:Nat) (u:Value),(zf63 kn (isP ops L) (mostP L) L.length)[j]?=some u→w3.cell? ⟨g3,j,none⟩=some u:=fun j u hj=>by
    have:=HV3.out.cells (g:=g3) rfl j u hj
    rw [Addr.add_lit,Nat.zero_add] at this
    exact this
   have HCL:Hid (∀ V:World,Below w3.heap.size w3 V→V.cell? ⟨g,0,none⟩=some (.string ⟨#[]⟩)∧V.cell? ⟨g,1,none⟩=some (.slice va ops.length vc)∧V.cell? ⟨g3,0,none⟩=some (.bool kn)∧V.cell? ⟨g3,1,none⟩=some (.bool (isP ops L))∧V.cell? ⟨g3,2,none⟩=some (.int .i64 (mostP L:Int))∧V.cell? ⟨g3,3,none⟩=some (.int .i64 (L.length:Int))):=fun V hV=>
    ⟨(hV.cell (p:=⟨g,0,none⟩) hg).trans p0,(hV.cell (p:=⟨g,1,none⟩) hg).trans p1,(hV.cell (p:=⟨g3,0,none⟩) hg3).trans (hvd 0 _ rfl),(hV.cell (p:=⟨g3,1,none⟩) hg3).trans (hvd 1 _ rfl),(hV.cell (p:=⟨g3,2,none⟩) hg3).trans (hvd 2 _ rfl),(hV.cell (p:=⟨g3,3,none⟩) hg3).trans (hvd 3 _ rfl)⟩
   clear hE hE2 hnb hvd p0 p1 hkk
   go_wp2_with fail
   refine (hbn _).mono ?_
   rintro e w4 ⟨rfl,hb4⟩
   have B4:Hid (Below w3.heap.size w3 w4):=hb4
   obtain ⟨q0,q1,_,_,_,_⟩:=HCL.out w4 hb4
   clear hbn hb4
   go_wp2_with fail
   go_loopw [18] (fun s18 wr=>s18=.int .i64 0∧Hid (w4=wr)) (fun _ _=>0)
   case atStart=>exact ⟨rfl,rfl⟩
   case round=>
    obtain ⟨rfl,HW⟩:=hrel
    obtain rfl:w4=wr:=HW.out
    go_wp2_with fail
    refine (hnm _).mono ?_
    rintro e w5 ⟨rfl,hb5⟩
    have B5:Hid (Below w3.heap.size w3 w5):=B4.out.trans (hb5.mono B4.out.size)
    clear hb5 hnm q0 q1
    go_wp2_with fail
    refine (hbg _).mono ?_
    rintro e w6 ⟨rfl,hb6⟩
    have B6:Hid (Below w3.heap.size w3 w6):=B5.out.trans (hb6.mono B5.out.size)
    have HSS:Hid (∀ V:World,Below w6.heap.size w6 V→V.cell? ⟨g,0,none⟩=some (.string ⟨#[]⟩)∧V.cell? ⟨g,1,none⟩=some (.slice va ops.length vc)∧V.cell? ⟨g3,0,none⟩=some (.bool kn)∧V.cell? ⟨g3,1,none⟩=some (.bool (isP ops L))∧V.cell? ⟨g3,2,none⟩=some (.int .i64 (mostP L:Int))∧V.cell? ⟨g3,3,none⟩=some (.int .i64 (L.length:Int))):=fun V hV=>HCL.out V (B6.out.trans (hV.mono B6.out.size))
    have HLS:Hid (∀ V:World,Below w6.heap.size w6 V→Calls Tryz.prog 17 #[.string ⟨m.toArray⟩,.slice oa ops.length oc,.agg #[.string ⟨#[]⟩,.slice va ops.length vc],.agg #[.bool kn,.bool (isP ops L),.int .i64 (mostP L:Int),.int .i64 (L.length:Int)],.string ⟨(idsT Q).toArray⟩] V fun e w'=>e=.returned (.bool true)∧Below V.heap.size V w'):=fun V hV=>by
     have h3:=B6.out.trans (hV.mono B6.out.size)
     exact hls V (HO3.out.below h3) (HP3.out.iat.below h3)
    obtain ⟨q0,q1,q2,q3,q4,q5⟩:=HSS.out w6 (Below.refl _ _)
    have HBD:Hid (Below w6.heap.size w6 w6.drew):=(Below.refl _ _).drew
    have hl6:=HLS.out w6.drew HBD.out
    generalize isP ops L=is at*
    generalize mostP L=mo at*
    clear hb6 hbg hls HLS
    go_wp2_with fail
    go_cut [8] (fun a wx=>a=.bool true∧Below w6.heap.size w6 wx)
    case first=>
     go_region_held3 (fun w'=>w'.cell? ⟨g,0,none⟩=some (.string ⟨#[]⟩)∧w'.cell? ⟨g,1,none⟩=some (.slice va ops.length vc)∧w'.cell? ⟨g3,0,none⟩=some (.bool kn)∧w'.cell? ⟨g3,1,none⟩=some (.bool is)∧w'.cell? ⟨g3,2,none⟩=some (.int .i64 (mo:Int))∧w'.cell? ⟨g3,3,none⟩=some (.int .i64 (L.length:Int))) (first | (with_reducible exact hS7) | go_keep) (first
      | (go_at_call 17;refine hl6.mono ?_;rintro e w7 ⟨rfl,hb7⟩;have hk7:=HBD.out.trans hb7;have hS7:=HSS.out _ hk7;have HB7:=srch.Hid.mk' hk7;clear hb7 hk7 hl6))
     go_wp2
     go_meet
     exact ⟨rfl,HB7.out⟩
    case rest=>
     obtain ⟨rfl,hb7⟩:=hcut
     have HBE:Hid (Below w.heap.size w wc):=HB3.out.trans ((B6.out.trans (hb7.mono B6.out.size)).mono HB3.out.size)
     clear hb7
     go_wp2_with fail
     go_ret
     exact ⟨rfl,HBE.out⟩
end Go.Proofs.YtbbkihekjdffpaaGreatDoor.jd
