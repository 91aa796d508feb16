/- One text. -/
import Derived.Test.YtlkidmafomjhgaaGreatDoorKeepM
import Derived.Test.YtlkidmafomjhgaaGreatDoorKeepS1
set_option maxHeartbeats 2000000
set_option maxRecDepth 100000
namespace Go.Proofs.YtlkidmafomjhgaaGreatDoor.keep
open Go.RowKit
open srch (sOK sIll)
def zuf (l:List UInt8):List UInt8:=l.takeWhile (fun c=>c != 32&&c != 10)
theorem zSp (l:List UInt8) (j:Nat) (hj:j < l.length) (h:∀ c∈l.take j,c≠32∧c≠10) (hb:l[j]=32∨l[j]=10):zuf l=l.take j:=by
 unfold zuf
 conv=>lhs;rw [←List.take_append_drop j l]
 rw [List.takeWhile_append_of_pos (fun c hc=>by have:=h c hc;simp [this.1,this.2]),List.drop_eq_getElem_cons hj,List.takeWhile_cons,if_neg (by rcases hb with e | e <;> simp [e]),List.append_nil]
theorem zJWR (l:List UInt8) (w:World) (z:Nat) (hz:z≤1000) (hzl:z < l.length) (hzb:l[z]=32∨l[z]=10):
 Calls Tryz.prog 14 #[.string ⟨l.toArray⟩] w fun e w'=>e=.returned (.string ⟨(zuf l).toArray⟩)∧w'=w:=by
 obtain ⟨RES,hRES⟩:∃ RES,RES=zuf l:=⟨_,rfl⟩
 rw [←hRES]
 have HRES:Hid _:=hRES
 clear hRES
 go_enter Tryz.func14,Tryz.ntmps14
 go_wp2_with fail
 go_loop [3] (fun i=>∃ (j:Nat),i=.int .i64 (j:Int)∧j≤z∧Hid (∀ c∈l.take j,c≠32∧c≠10)) (fun i=>1000 - (intOf i).toNat)
 case atStart=>exact ⟨0,rfl,by omega,by intro c hc;simp at hc⟩
 case round=>
  obtain ⟨j,rfl,hj,hnl⟩:=hrel
  have hin:j < l.length:=by omega
  have hin':(j:Int) < (l.length:Int):=by omega
  have hsz1:j < (⟨l.toArray⟩:ByteArray).size:=by show j < l.toArray.size;simpa using hin
  have hby:(⟨l.toArray⟩:ByteArray)[j]'hsz1=l[j]:=by show l.toArray[j]'(by simpa using hin)=l[j];simp
  by_cases hc:l[j]=32∨l[j]=10
  · have hW:Hid (RES=l.take j):=by show _=_;rw [HRES.out];exact zSp l j hin hnl.out hc
    have hex:(⟨l.toArray⟩:ByteArray).extract 0 j=⟨(l.take j).toArray⟩:=by
     rw [Lib.extract_eq];simp
    by_cases h32:l[j]=32
    · have hc':(((((⟨l.toArray⟩:ByteArray)[j]'hsz1).toNat:Int) == 32))=true:=by rw [hby,h32];decide
      clear hby hc h32
      go_wp2_with fail
      go_ret
      exact ⟨by rw [hW.out];rfl,rfl⟩
    · have h10:l[j]=10:=hc.resolve_left h32
      have hc':(((((⟨l.toArray⟩:ByteArray)[j]'hsz1).toNat:Int) == 32))=false:=by rw [hby,h10];decide
      have hc2:(((((⟨l.toArray⟩:ByteArray)[j]'hsz1).toNat:Int) == 10))=true:=by rw [hby,h10];decide
      clear hby hc h32 h10
      go_wp2_with fail
      go_ret
      exact ⟨by rw [hW.out];rfl,rfl⟩
  · have n1:l[j]≠32:=fun e=>hc (.inl e)
    have n2:l[j]≠10:=fun e=>hc (.inr e)
    have hc':(((((⟨l.toArray⟩:ByteArray)[j]'hsz1).toNat:Int) == 32))=false:=by
     rw [hby]
     have:l[j].toNat≠32:=fun e=>n1 (UInt8.toNat_inj.1 e)
     simp;omega
    have hc2:(((((⟨l.toArray⟩:ByteArray)[j]'hsz1).toNat:Int) == 10))=false:=by
     rw [hby]
     have:l[j].toNat≠10:=fun e=>n2 (UInt8.toNat_inj.1 e)
     simp;omega
    have hjz:j+1≤z:=by
     have:j≠z:=by rintro rfl;exact hc hzb
     omega
    have hN:Hid (∀ c∈l.take (j+1),c≠32∧c≠10):=by
     intro c hcm
     rw [List.take_succ_eq_append_getElem hin] at hcm
     rcases List.mem_append.1 hcm with hcm | hcm
     · exact hnl.out c hcm
     · rw [List.mem_singleton] at hcm;subst hcm;exact ⟨n1,n2⟩
    clear hby hc n1 n2
    go_wp2_with fail
    go_round
    case rel=>exact ⟨j+1,by go_num,hjz,hN⟩
    case measure=>simp [intOf];omega
theorem zqf (a r:List UInt8) (h:∀ c∈a,c≠32∧c≠10):zuf (a++32::r)=a:=by
 unfold zuf
 rw [List.takeWhile_append_of_pos (fun c hc=>by have:=h c hc;simp [this.1,this.2]),List.takeWhile_cons,if_neg (by simp),List.append_nil]
theorem zwzb (r:List UInt8):zuf (sOK++32::r)=sOK:=zqf _ r (by decide)
theorem zhr (r:List UInt8):zuf (sIll++32::r)=sIll:=zqf _ r (by decide)
theorem zvr (id cl:Int) (name key:List UInt8) (arg exp call ret vk vn:Int) (w:World) (hv:zVP vk vn):
 Calls Tryz.prog 20 #[opA id cl name key arg exp call ret vk vn] w fun e w'=>e=.returned (.agg #[.int .i64 (z2F name vk vn).1,.int .i64 (z2F name vk vn).2])∧Below w.heap.size w w':=by
 obtain ⟨R,hR⟩:∃ R,R=z2F name vk vn:=⟨_,rfl⟩
 rw [←hR]
 unfold opA
 rcases hv with ⟨rfl,rfl⟩ | ⟨rfl,h1,h2⟩ | ⟨rfl,h | h⟩
 · cases hg:(name == [103,101,116]) with
   | true=>
     have hR':Hid (R=(1,5)):=by show _=_;rw [hR];unfold z2F;rw [if_neg (by decide),if_neg (by decide),if_pos (.inl (by simpa using hg))]
     clear hR
     go_enter Tryz.func20,Tryz.ntmps20
     go_wp2_with fail
     exact bodyPost_ret (v:=.agg #[.int .i64 1,.int .i64 5]) (by simp [results,Tryz.results20,go_sem]) rfl ⟨by rw [hR'.out],((Below.refl _ _).alloc (Nat.le_refl _) _).alloc (by simp) _⟩
   | false=>
     cases hd:(name == [100,101,113]) with
     | true=>
       have hR':Hid (R=(1,5)):=by show _=_;rw [hR];unfold z2F;rw [if_neg (by decide),if_neg (by decide),if_pos (.inr (by simpa using hd))]
       clear hR
       go_enter Tryz.func20,Tryz.ntmps20
       go_wp2_with fail
       exact bodyPost_ret (v:=.agg #[.int .i64 1,.int .i64 5]) (by simp [results,Tryz.results20,go_sem]) rfl ⟨by rw [hR'.out],((Below.refl _ _).alloc (Nat.le_refl _) _).alloc (by simp) _⟩
     | false=>
       have hR':Hid (R=(0,0)):=by show _=_;rw [hR];unfold z2F;rw [if_neg (by decide),if_neg (by decide),if_neg (by rintro (h | h);(simp [h] at hg);(simp [h] at hd))]
       clear hR
       go_enter Tryz.func20,Tryz.ntmps20
       go_wp2_with fail
       exact bodyPost_ret (v:=.agg #[.int .i64 0,.int .i64 0]) (by simp [results,Tryz.results20,go_sem]) rfl ⟨by rw [hR'.out],((Below.refl _ _).alloc (Nat.le_refl _) _).alloc (by simp) _⟩
 · have hR':Hid (R=(1,vn+1)):=by show _=_;rw [hR];rfl
   have hw:IntKind.i64.wrap (vn+1)=vn+1:=z6Xb (by omega) (by omega)
   clear hR
   go_enter Tryz.func20,Tryz.ntmps20
   go_wp2_with fail
   exact bodyPost_ret (v:=.agg #[.int .i64 1,.int .i64 (vn+1)]) (by simp [results,Tryz.results20,go_sem]) rfl ⟨by rw [hR'.out],((Below.refl _ _).alloc (Nat.le_refl _) _).alloc (by simp) _⟩
 · have hR':Hid (R=(2,1)):=by show _=_;rw [hR,h];rfl
   subst h
   clear hR
   go_enter Tryz.func20,Tryz.ntmps20
   go_wp2_with fail
   exact bodyPost_ret (v:=.agg #[.int .i64 2,.int .i64 1]) (by simp [results,Tryz.results20,go_sem]) rfl ⟨by rw [hR'.out],((Below.refl _ _).alloc (Nat.le_refl _) _).alloc (by simp) _⟩
 · have hR':Hid (R=(2,0)):=by show _=_;rw [hR,h];rfl
   subst h
   clear hR
   go_enter Tryz.func20,Tryz.ntmps20
   go_wp2_with fail
   exact bodyPost_ret (v:=.agg #[.int .i64 2,.int .i64 0]) (by simp [results,Tryz.results20,go_sem]) rfl ⟨by rw [hR'.out],((Below.refl _ _).alloc (Nat.le_refl _) _).alloc (by simp) _⟩
end Go.Proofs.YtlkidmafomjhgaaGreatDoor.keep
