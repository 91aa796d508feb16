/- Several texts in one. -/
import Derived.Test.YtbbkihekjdffpaaGreatDoorPureX
set_option maxHeartbeats 4000000
set_option maxRecDepth 100000
namespace Go.Proofs.YtbbkihekjdffpaaGreatDoor
open Go.RowKit

def zqV (m:RM):List Value:=[.string ⟨m.1.toArray⟩,.int .u8 (m.2.1:Int),.string ⟨m.2.2.1.toArray⟩,.int .i64 m.2.2.2]
def zQE (l:List RM):List Value:=l.flatMap zqV
theorem z41 (ms:List RM) (i:Nat) (h:i < ms.length):(zQE ms)[i*4]?=some (.string ⟨(ms[i]).1.toArray⟩)∧(zQE ms)[i*4+1]?=some (.int .u8 ((ms[i]).2.1:Int))∧(zQE ms)[i*4+2]?=some (.string ⟨(ms[i]).2.2.1.toArray⟩)∧(zQE ms)[i*4+3]?=some (.int .i64 (ms[i]).2.2.2):=by
 induction ms generalizing i with
 | nil=>simp at h
 | cons m r ih=>
   have e:zQE (m::r)=zqV m++zQE r:=by simp [zQE]
   have hl:(zqV m).length=4:=rfl
   rw [e]
   cases i with
   | zero=>simp [zqV]
   | succ i=>
     obtain ⟨a,b,c,d⟩:=ih i (by simpa using h)
     refine ⟨?_,?_,?_,?_⟩
     · rw [List.getElem?_append_right (by omega),hl,show (i+1)*4 - 4=i*4 by omega,a];simp
     · rw [List.getElem?_append_right (by omega),hl,show (i+1)*4+1 - 4=i*4+1 by omega,b];simp
     · rw [List.getElem?_append_right (by omega),hl,show (i+1)*4+2 - 4=i*4+2 by omega,c];simp
     · rw [List.getElem?_append_right (by omega),hl,show (i+1)*4+3 - 4=i*4+3 by omega,d];simp

def RRow (w:World) (o:Option Addr) (ms:List RM):Prop:=
 ms≠[]→∃ g,o=some ⟨g,0,none⟩∧g < w.heap.size∧∀ j u,(zQE ms)[j]?=some u→w.cell? ⟨g,j,none⟩=some u
theorem RRow.below {w w':World} {o:Option Addr} {ms:List RM} (h:RRow w o ms) (k:Below w.heap.size w w'):RRow w' o ms:=by
 intro hne
 obtain ⟨g,h1,h2,h3⟩:=h hne
 exact ⟨g,h1,Nat.lt_of_lt_of_le h2 k.size,fun j u hj=>(k.cell (p:=⟨g,j,none⟩) h2).trans (h3 j u hj)⟩

def memR (nm:List UInt8):RM→Nat→List RM→RM×Nat
 | m,n,[]=>(m,n)
 | m,n,x::r=>if x.1=nm then memR nm x (n+1) r else memR nm m n r
def zB6:RM:=([],0,[],0)
def zF5 (m:RM):Value:=.agg #[.string ⟨m.1.toArray⟩,.int .u8 (m.2.1:Int),.string ⟨m.2.2.1.toArray⟩,.int .i64 m.2.2.2]
def rmBlk (w:World) (b:Nat) (m:RM):Prop:=w.heap[b]?=some (.cells #[.string ⟨m.1.toArray⟩,.int .u8 (m.2.1:Int),.string ⟨m.2.2.1.toArray⟩,.int .i64 m.2.2.2] 123 (0,0))

theorem rmBlk.set {w:World} {b:Nat} {m:RM} (h:rmBlk w b m) (x:RM):rmBlk ((((w.setCell ⟨b,0,none⟩ (.string ⟨x.1.toArray⟩)).setCell ⟨b,1,none⟩ (.int .u8 (x.2.1:Int))).setCell ⟨b,2,none⟩ (.string ⟨x.2.2.1.toArray⟩)).setCell ⟨b,3,none⟩ (.int .i64 x.2.2.2)) b x:=by
 unfold rmBlk at*
 rw [zFg (zFg (zFg (zFg h 0 _) 1 _) 2 _) 3 _]
 simp
theorem rmBlk.other {w:World} {b c:Nat} {m:RM} (h:rmBlk w b m) (hn:b≠c) (x y z u:Value):rmBlk ((((w.setCell ⟨c,0,none⟩ x).setCell ⟨c,1,none⟩ y).setCell ⟨c,2,none⟩ z).setCell ⟨c,3,none⟩ u) b m:=by
 unfold rmBlk at*
 rw [zRA hn,zRA hn,zRA hn,zRA hn];exact h

theorem zAO (o:Option Addr) (cap:Nat) (ms:List RM) (nm:List UInt8) (w:World) (hr:RRow w o ms) (hl:ms.length≤2000000):
 Calls Tryz.prog 56 #[.slice o ms.length cap,.string ⟨nm.toArray⟩] w fun e w'=>Below w.heap.size w w'∧e=.returned (.tuple #[zF5 (memR nm zB6 0 ms).1,.int .i64 ((memR nm zB6 0 ms).2:Int)]):=by
 go_enter Tryz.func56,Tryz.ntmps56
 go_wp2
 go_loopw [7,8] (fun nv i wr=>∃ (j n:Nat) (m:RM),nv=.int .i64 (n:Int)∧i=.int .i64 (j:Int)∧j≤ms.length∧n≤j∧memR nm m n (ms.drop j)=memR nm zB6 0 ms∧rmBlk wr (w.heap.size+1) m∧rmBlk wr w.heap.size zB6∧Below w.heap.size w wr) (fun _ i _=>ms.length - (intOf i).toNat)
 case atStart=>
  refine ⟨0,0,zB6,rfl,rfl,by omega,by omega,rfl,?_,?_,((Below.refl _ _).alloc (Nat.le_refl _) _).alloc (by simp) _⟩
  · exact ziF _ _ _ (by simp)
  · exact (zD1 _ _ _ (by simp)).trans (ziF _ _ _ rfl)
 case round=>
  obtain ⟨j,n,m,rfl,rfl,hj,hnj,HR,hm,hz,hbl⟩:=hrel
  have hR:Hid (memR nm m n (ms.drop j)=memR nm zB6 0 ms):=HR
  clear HR
  have hsz:=zBq hm
  have m0:wr.cell? ⟨w.heap.size+1,0,none⟩=some (.string ⟨m.1.toArray⟩):=by rw [zBk hm];rfl
  have m1:wr.cell? ⟨w.heap.size+1,1,none⟩=some (.int .u8 (m.2.1:Int)):=by rw [zBk hm];rfl
  have m2:wr.cell? ⟨w.heap.size+1,2,none⟩=some (.string ⟨m.2.2.1.toArray⟩):=by rw [zBk hm];rfl
  have m3:wr.cell? ⟨w.heap.size+1,3,none⟩=some (.int .i64 m.2.2.2):=by rw [zBk hm];rfl
  have mf0:wr.frozen? ⟨w.heap.size+1,0,none⟩=false:=zBn hm 0
  have mf1:wr.frozen? ⟨w.heap.size+1,1,none⟩=false:=zBn hm 1
  have mf2:wr.frozen? ⟨w.heap.size+1,2,none⟩=false:=zBn hm 2
  have mf3:wr.frozen? ⟨w.heap.size+1,3,none⟩=false:=zBn hm 3
  by_cases hlt:j < ms.length
  · obtain ⟨g,rfl,hg,hcells⟩:=hr (fun e=>by rw [e] at hlt;simp at hlt)
    obtain ⟨c0,c1,c2,c3⟩:=z41 ms j hlt
    have d0:wr.cell? ⟨g,j*4,none⟩=_:=(hbl.cell (p:=⟨g,j*4,none⟩) hg).trans (hcells _ _ c0)
    have d1:wr.cell? ⟨g,j*4+1,none⟩=_:=(hbl.cell (p:=⟨g,j*4+1,none⟩) hg).trans (hcells _ _ c1)
    have d2:wr.cell? ⟨g,j*4+2,none⟩=_:=(hbl.cell (p:=⟨g,j*4+2,none⟩) hg).trans (hcells _ _ c2)
    have d3:wr.cell? ⟨g,j*4+3,none⟩=_:=(hbl.cell (p:=⟨g,j*4+3,none⟩) hg).trans (hcells _ _ c3)
    have hS:Hid (memR nm m n (ms[j]::ms.drop (j+1))=memR nm zB6 0 ms):=by rw [←hR.out,←List.drop_eq_getElem_cons hlt];exact rfl
    clear hR c0 c1 c2 c3 hcells hr
    generalize ms[j]=x at*
    obtain ⟨xn,xk,xs,xv⟩:=x
    simp only at d0 d1 d2 d3
    have hji:(j:Int) < (ms.length:Int):=by omega
    by_cases hx:xn=nm
    · have hq:(xn == nm)=true:=by rw [hx];simp
      have hE:Hid (memR nm (xn,xk,xs,xv) (n+1) (ms.drop (j+1))=memR nm zB6 0 ms):=by rw [←hS.out,memR,if_pos hx];exact rfl
      clear hS hx
      go_wp2
      go_roundw
      case rel=>exact ⟨j+1,n+1,(xn,xk,xs,xv),by go_num,by go_num,by omega,by omega,hE.out,hm.set (xn,xk,xs,xv),hz.other (by omega) _ _ _ _,(((hbl.setCell (by simp) _).setCell (by simp) _).setCell (by simp) _).setCell (by simp) _⟩
      case measure=>simp [intOf];omega
    · have hq:(xn == nm)=false:=by simpa using hx
      have hE:Hid (memR nm m n (ms.drop (j+1))=memR nm zB6 0 ms):=by rw [←hS.out,memR,if_neg hx];exact rfl
      clear hS hx
      go_wp2
      go_roundw
      case rel=>exact ⟨j+1,n,m,rfl,by go_num,by omega,by omega,hE.out,hm,hz,hbl⟩
      case measure=>simp [intOf];omega
  · have hE:Hid (memR nm zB6 0 ms=(m,n)):=by rw [←hR.out,List.drop_eq_nil_of_le (by omega)];exact rfl
    have hji:¬ (j:Int) < (ms.length:Int):=by omega
    clear hR
    have z0:wr.cell? ⟨w.heap.size,0,none⟩=some (.string ⟨#[]⟩):=by rw [zBk hz];rfl
    have z1:wr.cell? ⟨w.heap.size,1,none⟩=some (.int .u8 0):=by rw [zBk hz];rfl
    have z2:wr.cell? ⟨w.heap.size,2,none⟩=some (.string ⟨#[]⟩):=by rw [zBk hz];rfl
    have z3:wr.cell? ⟨w.heap.size,3,none⟩=some (.int .i64 0):=by rw [zBk hz];rfl
    have zf0:wr.frozen? ⟨w.heap.size,0,none⟩=false:=zBn hz 0
    have zf1:wr.frozen? ⟨w.heap.size,1,none⟩=false:=zBn hz 1
    have zf2:wr.frozen? ⟨w.heap.size,2,none⟩=false:=zBn hz 2
    have zf3:wr.frozen? ⟨w.heap.size,3,none⟩=false:=zBn hz 3
    go_wp2
    refine bodyPost_ret (v:=.tuple #[zF5 m,.int .i64 (n:Int)]) (by simp [results,Tryz.results56,go_sem,zF5,z0,z1,z2,z3]) rfl ⟨(((hbl.setCell (by simp) _).setCell (by simp) _).setCell (by simp) _).setCell (by simp) _,by rw [hE.out]⟩

def fitsR (call:Bool):Nat→List RM→Nat
 | n,[]=>n
 | n,x::r=>if fitP x.1 x.2.1 call=true then fitsR call (n+1) r else fitsR call n r
def repR (ms:List RM):List RM→Bool
 | []=>false
 | x::r=>if 1 < (memR x.1 zB6 0 ms).2 then true else repR ms r

theorem RRow.at {w wr:World} {o:Option Addr} {ms:List RM} (h:RRow w o ms) (k:Below w.heap.size w wr) {j:Nat} (hlt:j < ms.length):
 ∃ g,o=some ⟨g,0,none⟩∧g < w.heap.size∧wr.cell? ⟨g,j*4,none⟩=some (.string ⟨(ms[j]).1.toArray⟩)∧wr.cell? ⟨g,j*4+1,none⟩=some (.int .u8 ((ms[j]).2.1:Int))∧
  wr.cell? ⟨g,j*4+2,none⟩=some (.string ⟨(ms[j]).2.2.1.toArray⟩)∧wr.cell? ⟨g,j*4+3,none⟩=some (.int .i64 (ms[j]).2.2.2):=by
 obtain ⟨g,h1,hg,hcells⟩:=h (fun e=>by rw [e] at hlt;simp at hlt)
 obtain ⟨c0,c1,c2,c3⟩:=z41 ms j hlt
 exact ⟨g,h1,hg,(k.cell (p:=⟨g,j*4,none⟩) hg).trans (hcells _ _ c0),(k.cell (p:=⟨g,j*4+1,none⟩) hg).trans (hcells _ _ c1),
  (k.cell (p:=⟨g,j*4+2,none⟩) hg).trans (hcells _ _ c2),(k.cell (p:=⟨g,j*4+3,none⟩) hg).trans (hcells _ _ c3)⟩

theorem z51 (o:Option Addr) (cap:Nat) (ms:List RM) (call:Bool) (w:World) (hr:RRow w o ms) (hl:ms.length≤2000000) (hk:∀ m∈ms,m.2.1 < 256):
 Calls Tryz.prog 102 #[.slice o ms.length cap,.bool call] w fun e w'=>Below w.heap.size w w'∧e=.returned (.int .i64 (fitsR call 0 ms:Int)):=by
 go_enter Tryz.func102,Tryz.ntmps102
 go_wp2
 go_loopw [5,6] (fun nv i wr=>∃ (j n:Nat),nv=.int .i64 (n:Int)∧i=.int .i64 (j:Int)∧j≤ms.length∧n≤j∧fitsR call n (ms.drop j)=fitsR call 0 ms∧Below w.heap.size w wr) (fun _ i _=>ms.length - (intOf i).toNat)
 case atStart=>exact ⟨0,0,rfl,rfl,by omega,by omega,rfl,Below.refl _ _⟩
 case round=>
  obtain ⟨j,n,rfl,rfl,hj,hnj,HR,hbl⟩:=hrel
  have hR:Hid (fitsR call n (ms.drop j)=fitsR call 0 ms):=HR
  clear HR
  by_cases hlt:j < ms.length
  · obtain ⟨g,rfl,hg,d0,d1,d2,d3⟩:=hr.at hbl hlt
    have hS:Hid (fitsR call n (ms[j]::ms.drop (j+1))=fitsR call 0 ms):=by rw [←hR.out,←List.drop_eq_getElem_cons hlt];exact rfl
    have hk':=hk ms[j] (List.getElem_mem hlt)
    clear hR hr hk
    generalize ms[j]=x at*
    obtain ⟨xn,xk,xs,xv⟩:=x
    simp only at d0 d1 d2 d3 hk'
    have hji:(j:Int) < (ms.length:Int):=by omega
    go_wp2_with fail
    refine (zNE ⟨xn.toArray⟩ xk ⟨xs.toArray⟩ xv call _ hk').mono ?_
    rintro e w2 ⟨hb2,rfl⟩
    have hbl2:=hbl.trans (hb2.mono hbl.size)
    rw [show (⟨xn.toArray⟩:ByteArray).toList=xn by rw [ByteArray.toList_eq]]
    cases hf:fitP xn xk call with
    | true=>
      have hE:Hid (fitsR call (n+1) (ms.drop (j+1))=fitsR call 0 ms):=by rw [←hS.out,fitsR,if_pos hf];exact rfl
      clear hS hf
      go_wp2
      go_roundw
      case rel=>exact ⟨j+1,n+1,by go_num,by go_num,by omega,by omega,hE.out,hbl2⟩
      case measure=>simp [intOf];omega
    | false=>
      have hE:Hid (fitsR call n (ms.drop (j+1))=fitsR call 0 ms):=by rw [←hS.out,fitsR,if_neg (by rw [hf];simp)];exact rfl
      clear hS hf
      go_wp2
      go_roundw
      case rel=>exact ⟨j+1,n,rfl,by go_num,by omega,by omega,hE.out,hbl2⟩
      case measure=>simp [intOf];omega
  · have hE:Hid (fitsR call 0 ms=n):=by rw [←hR.out,List.drop_eq_nil_of_le (by omega)];exact rfl
    have hji:¬ (j:Int) < (ms.length:Int):=by omega
    clear hR
    go_wp2
    go_ret
    exact ⟨hbl,by rw [hE.out];rfl⟩

theorem z4Q (o:Option Addr) (cap:Nat) (ms:List RM) (w:World) (hr:RRow w o ms) (hl:ms.length≤2000000):
 Calls Tryz.prog 55 #[.slice o ms.length cap] w fun e w'=>Below w.heap.size w w'∧e=.returned (.bool (repR ms ms)):=by
 go_enter Tryz.func55,Tryz.ntmps55
 go_wp2
 go_loopw [3] (fun i wr=>∃ (j:Nat),i=.int .i64 (j:Int)∧j≤ms.length∧repR ms (ms.drop j)=repR ms ms∧Below w.heap.size w wr) (fun i _=>ms.length - (intOf i).toNat)
 case atStart=>exact ⟨0,rfl,by omega,rfl,Below.refl _ _⟩
 case round=>
  obtain ⟨j,rfl,hj,HR,hbl⟩:=hrel
  have hR:Hid (repR ms (ms.drop j)=repR ms ms):=HR
  clear HR
  by_cases hlt:j < ms.length
  · have hrr:=hr.below hbl
    obtain ⟨g,rfl,hg,d0,d1,d2,d3⟩:=hr.at hbl hlt
    have hS:Hid (repR ms (ms[j]::ms.drop (j+1))=repR ms ms):=by rw [←hR.out,←List.drop_eq_getElem_cons hlt];exact rfl
    clear hR
    generalize ms[j]=x at*
    obtain ⟨xn,xk,xs,xv⟩:=x
    simp only at d0 d1 d2 d3
    have hji:(j:Int) < (ms.length:Int):=by omega
    go_wp2_with fail
    refine (zAO (some ⟨g,0,none⟩) cap ms xn _ hrr hl).mono ?_
    rintro e w2 ⟨hb2,rfl⟩
    have hbl2:=hbl.trans (hb2.mono hbl.size)
    clear hrr hr
    generalize hmr:memR xn zB6 0 ms=q at*
    obtain ⟨⟨m1,m2,m3,m4⟩,c⟩:=q
    unfold zF5
    by_cases h1:1 < c
    · have hE:Hid (repR ms ms=true):=by rw [←hS.out,repR];simp only [hmr];rw [if_pos h1];exact rfl
      have h1':(1:Int) < (c:Int):=by omega
      clear hS hmr
      go_wp2
      go_ret
      exact ⟨hbl2.alloc hbl2.size _,by rw [hE.out];rfl⟩
    · have hE:Hid (repR ms (ms.drop (j+1))=repR ms ms):=by rw [←hS.out,repR];simp only [hmr];rw [if_neg h1];exact rfl
      have h1':¬ (1:Int) < (c:Int):=by omega
      clear hS hmr
      go_wp2
      go_roundw
      case rel=>exact ⟨j+1,by go_num,by omega,hE.out,hbl2.alloc hbl2.size _⟩
      case measure=>simp [intOf];omega
  · have hE:Hid (repR ms ms=false):=by rw [←hR.out,List.drop_eq_nil_of_le (by omega)];exact rfl
    have hji:¬ (j:Int) < (ms.length:Int):=by omega
    clear hR
    go_wp2
    go_ret
    exact ⟨hbl,by rw [hE.out];rfl⟩

def z40:List (List UInt8)→List UInt8→List Nat→List (List UInt8)
 | acc,cur,[]=>if cur=[] then acc else acc++[cur]
 | acc,cur,c::t=>if c=10 then z40 (acc++[cur]) [] t else z40 acc (cur++[UInt8.ofNat c]) t
def linesP (l:List Nat):List (List UInt8):=z40 [] [] l
def z8E (l:List (List UInt8)):List Value:=l.map (fun x=>Value.string ⟨x.toArray⟩)
theorem zBt (l:List (List UInt8)) (m:List UInt8):z8E (l++[m])=z8E l++[.string ⟨m.toArray⟩]:=by simp [z8E]
theorem strInfo:(Tryz.prog.info? 9).map (fun i=>(i.zero,i.size,i.bytes))=some (some (.string ⟨#[]⟩),1,16):=by kernel_rfl

theorem zMn {s:ByteArray} {a j:Nat} {cur:List UInt8} (h:s.extract a j=⟨cur.toArray⟩) (ha:a≤j) (hj:j < s.size):s.extract a (j+1)=⟨(cur++[UInt8.ofNat (s[j]).toNat]).toArray⟩:=by
 have e1:=z4M s a (j - a)
 have e2:=z4M s a (j - a+1)
 rw [show a+(j - a)=j by omega,h] at e1
 rw [show a+(j - a+1)=j+1 by omega] at e2
 have e3:cur=zU1 (((lets s).drop a).take (j - a)):=by
  have:=congrArg (fun b:ByteArray=>b.data.toList) e1
  simpa using this
 rw [e2,e3]
 congr 2
 have hl:j - a < ((lets s).drop a).length:=by rw [List.length_drop,zSQ];omega
 rw [List.take_succ_eq_append_getElem hl]
 simp only [zU1,List.map_append,List.map_cons,List.map_nil]
 congr 2
 have:=zhG hj
 have e4:(lets s)[j]?=some (s[j]).toNat:=by rw [←List.head?_drop,this];rfl
 have e5:((lets s).drop a)[j - a]?=some (s[j]).toNat:=by rw [List.getElem?_drop,show a+(j - a)=j by omega];exact e4
 rw [List.getElem?_eq_getElem hl] at e5
 rw [Option.some.inj e5]
theorem zR5 (s:ByteArray) (a:Nat):s.extract a a=⟨([]:List UInt8).toArray⟩:=by
 have e:=z4M s a 0
 simpa [zU1] using e
theorem zBg {s:ByteArray} {a j:Nat} {cur:List UInt8} (h:s.extract a j=⟨cur.toArray⟩) (ha:a≤j) (hj:j≤s.size):cur.length=j - a:=by
 have e1:=z4M s a (j - a)
 rw [show a+(j - a)=j by omega,h] at e1
 have e3:cur=zU1 (((lets s).drop a).take (j - a)):=by
  have:=congrArg (fun b:ByteArray=>b.data.toList) e1
  simpa using this
 rw [e3]
 simp [zU1,zSQ]
 omega

theorem zHK (w:World) (a:Value) (t:TypeId):∀ j u,[a][j]?=some u→(w.alloc (.cells #[a] t)).cell? ((⟨w.heap.size,0,none⟩:Addr).add j)=some u:=by
 intro j u hj
 match j,hj with
 | 0,hj=>simp at hj;subst hj;simp [Addr.add]

def zQR (s:ByteArray) (w:World) (e:Ending) (w':World):Prop:=
 Below w.heap.size w w'∧∃ v,(linesP (lets s)).length≤s.size∧(∀ l∈linesP (lets s),l.length≤s.size)∧w'.ownsRow w.heap.size 9 1 v (linesP (lets s)).length (z8E (linesP (lets s)))∧e=.returned v

theorem z7F (s:ByteArray) (w:World) (hs:s.size≤2000000):
 Calls Tryz.prog 29 #[.string s] w fun e w'=>zQR s w e w':=by
 go_enter Tryz.func29,Tryz.ntmps29
 go_wp2
 go_loopw [3,4,5] (fun v fr i wr=>∃ (j a:Nat) (acc:List (List UInt8)) (cur:List UInt8),fr=.int .i64 (a:Int)∧i=.int .i64 (j:Int)∧j≤s.size∧a≤j∧acc.length≤a∧(∀ l∈acc,l.length≤s.size)∧s.extract a j=⟨cur.toArray⟩∧z40 acc cur ((lets s).drop j)=linesP (lets s)∧wr.ownsRow w.heap.size 9 1 v acc.length (z8E acc)∧Below w.heap.size w wr) (fun _ _ i _=>s.size - (intOf i).toNat)
 case atStart=>exact ⟨0,0,[],[],rfl,rfl,by omega,by omega,by simp,by simp,zR5 s 0,rfl,World.ownsRow_nil _ _ _ _,Below.refl _ _⟩
 case round=>
  obtain ⟨i0,hi,hz0,hz1,hz2⟩:=info_parts strInfo
  obtain ⟨j,a,acc,cur,rfl,rfl,hjs,haj,hal,hok,hx,HR,hown,hbl⟩:=hrel
  have hR:Hid (z40 acc cur ((lets s).drop j)=linesP (lets s)):=HR
  clear HR
  have hzz:=hbl.size
  have hcl:=zBg hx haj hjs
  have hrow:=zYv hown
  by_cases hin:j < s.size
  · have hin':(j:Int) < (s.size:Int):=by omega
    have hD:Hid ((lets s).drop j=(s[j]).toNat::(lets s).drop (j+1)):=zhG hin
    by_cases h10:(s[j]).toNat=10
    · have b1:(((s[j]).toNat:Int) == 10)=true:=by simp;omega
      have hE:Hid (z40 (acc++[cur]) [] ((lets s).drop (j+1))=linesP (lets s)):=by rw [←hR.out,hD.out,z40,if_pos h10];exact rfl
      have hok':∀ l∈acc++[cur],l.length≤s.size:=by
       intro l hl
       rcases List.mem_append.1 hl with hl | hl
       · exact hok l hl
       · simp at hl;subst hl;omega
      have haj':(a:Int)≤(j:Int):=by omega
      have hjs':(j:Int)≤(s.size:Int):=by omega
      clear hR hD h10 hok
      go_wp2_with (at_builtin;refine wpList_append_own _ rfl _ _ 67 rfl w.heap.size 9 i0 (.string ⟨#[]⟩) 1 16 Tryz.underlying67 hi hz0 hz1 hz2 rfl (by decide) _ _ _ rfl (hown.alloc _) ⟨wr.heap.size,0,none⟩ 1 1 [.string ⟨cur.toArray⟩] rfl rfl ?c1 ?c2 ?c3 ?c4 ?c5 ?_)
      case c1=>exact zHK _ _ _
      case c2=>intro u hu;simp at hu;subst hu;rfl
      case c3=>unfold maxLen;omega
      case c4=>omega
      case c5=>simp;omega
      intro v5 w5 own5 grow5 _
      have hb5:Below w.heap.size w w5:=Below.grown' (hbl.alloc (by omega) _) grow5 hrow
      rw [←zBt] at own5
      have own6:w5.ownsRow w.heap.size 9 1 v5 (acc++[cur]).length (z8E (acc++[cur])):=by simpa using own5
      clear own5 grow5 hrow hown
      generalize hacc:acc++[cur]=acc' at*
      have hal':acc'.length≤j+1:=by rw [←hacc];simp;omega
      go_wp2
      go_roundw
      case rel=>exact ⟨j+1,j+1,acc',[],by go_num,by go_num,by omega,by omega,hal',hok',zR5 s (j+1),hE.out,own6,hb5⟩
      case measure=>simp [intOf];omega
    · have b1:(((s[j]).toNat:Int) == 10)=false:=by simp;omega
      have hE:Hid (z40 acc (cur++[UInt8.ofNat (s[j]).toNat]) ((lets s).drop (j+1))=linesP (lets s)):=by rw [←hR.out,hD.out,z40,if_neg h10];exact rfl
      have hx':=zMn hx haj hin
      clear hR hD h10
      go_wp2
      go_roundw
      case rel=>exact ⟨j+1,a,acc,_,rfl,by go_num,by omega,by omega,hal,hok,hx',hE.out,hown,hbl⟩
      case measure=>simp [intOf];omega
  · have hjs2:j=s.size:=by omega
    have hin':¬ (j:Int) < (s.size:Int):=by omega
    have hS:Hid (linesP (lets s)=if cur=[] then acc else acc++[cur]):=by rw [←hR.out,zgM (by omega)];exact rfl
    clear hR
    by_cases ha:a < s.size
    · have ha':(a:Int) < (s.size:Int):=by omega
      have hE:Hid (linesP (lets s)=acc++[cur]):=by rw [hS.out,if_neg (fun e=>by rw [e] at hcl;simp at hcl;omega)];exact rfl
      have hok':∀ l∈acc++[cur],l.length≤s.size:=by
       intro l hl
       rcases List.mem_append.1 hl with hl | hl
       · exact hok l hl
       · simp at hl;subst hl;omega
      have haj':(a:Int)≤(s.size:Int):=by omega
      rw [hjs2] at hx
      clear hS hok
      go_wp2_with (at_builtin;refine wpList_append_own _ rfl _ _ 67 rfl w.heap.size 9 i0 (.string ⟨#[]⟩) 1 16 Tryz.underlying67 hi hz0 hz1 hz2 rfl (by decide) _ _ _ rfl (hown.alloc _) ⟨wr.heap.size,0,none⟩ 1 1 [.string ⟨cur.toArray⟩] rfl rfl ?c1 ?c2 ?c3 ?c4 ?c5 ?_)
      case c2=>rfl
      case c3=>unfold maxLen;omega
      case c4=>omega
      case c5=>omega
      intro v5 w5 own5 grow5 _
      have hb5:Below w.heap.size w w5:=Below.grown' (hbl.alloc (by omega) _) grow5 hrow
      rw [←zBt] at own5
      have own6:w5.ownsRow w.heap.size 9 1 v5 (acc++[cur]).length (z8E (acc++[cur])):=by simpa using own5
      clear own5 grow5 hrow hown
      have hal':(acc++[cur]).length≤s.size:=by simp;omega
      go_wp2
      go_ret
      exact ⟨hb5,v5,by rw [hE.out];exact hal',by rw [hE.out];exact hok',by rw [hE.out];exact own6,rfl⟩
    · have ha':¬ (a:Int) < (s.size:Int):=by omega
      have hE:Hid (linesP (lets s)=acc):=by rw [hS.out,if_pos (List.length_eq_zero_iff.1 (by omega))];exact rfl
      clear hS
      go_wp2
      go_ret
      exact ⟨hbl,u3,by rw [hE.out];omega,by rw [hE.out];exact hok,by rw [hE.out];exact hown,rfl⟩
end Go.Proofs.YtbbkihekjdffpaaGreatDoor
