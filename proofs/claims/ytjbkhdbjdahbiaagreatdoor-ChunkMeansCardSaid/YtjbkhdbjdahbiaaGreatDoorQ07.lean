/- Parts of a proof. -/
import Derived.Test.YtjbkhdbjdahbiaaGreatDoorQ01
import Derived.Deep.QuietTactic
import Derived.BigQuiet
import Derived.Shelf.Abstract
import Derived.Lib.Strings
import Derived.Test.YtjbkhdbjdahbiaaGreatDoorRows
import Derived.ChangeSame
import Derived.ChangeVars
import Derived.JoinedOf
import Derived.RowKit
import Derived.RowKitTokens
import Derived.LaidLaws
import Derived.LaidHandle
import Derived.Stop.Joined
import Derived.Lib.LaidTab
import Derived.ChangeArms
import Derived.ChangeAt
import Derived.ProofKit
import Derived.OpenShut
import Derived.ChangeOld
import Derived.ChangeMaps5
set_option linter.unusedVariables false
set_option linter.unusedSimpArgs false
set_option maxHeartbeats 60000000
set_option maxRecDepth 100000
namespace Go.Proofs.YtjbkhdbjdahbiaaGreatDoor
section
theorem size_l (s:ByteArray):s.data.toList.length=s.size:=by rw[Array.length_toList];rfl
theorem get_l (s:ByteArray)(i:Nat)(h:i<s.size):s[i]'h=s.data.toList[i]'(by rw[size_l];exact h):=rfl
theorem get_bang (s:ByteArray)(i:Nat)(h:i<s.size):s.get! i=s[i]'h:=by
 simp[ByteArray.get!,getElem!_pos,h]
 rfl
theorem decode_bytes (s:ByteArray)(pos:Nat)(h:pos<s.size)(ha:128≤(s[pos]'h).toNat):pos+(Utf8.decode s pos).2≤s.size∧∀j,j<(Utf8.decode s pos).2→∀hj:pos+j<s.size,128≤(s[pos+j]'hj).toNat:=by
 have e0:s.get! (pos+0)=s[pos]'h:=get_bang s pos h
 have hn:¬(s[pos]'h).toNat<128:=by omega
 have w1:∀j,j<1→∀hj:pos+j<s.size,128≤(s[pos+j]'hj).toNat:=fun j hj h2=>by
  obtain rfl:j=0:=by omega
  exact ha
 have key:∀k,(decide (pos+k<s.size) && (s.get! (pos+k)).toNat / 64 == 2)=true→pos+k<s.size∧∀hj:pos+k<s.size,128≤(s[pos+k]'hj).toNat:=fun k hk=>by
  simp only[Bool.and_eq_true,decide_eq_true_eq,beq_iff_eq]at hk
  refine⟨hk.1,fun hj=> ?_⟩
  have h2:=hk.2
  rw[get_bang s _ hj]at h2
  omega
 simp only[Utf8.decode,e0,hn,if_false]
 split
 ·next hc=>
  rw[Bool.and_eq_true]at hc
  obtain⟨k1,k2⟩:=key 1 hc.2
  split
  ·refine⟨by simp only;omega,fun j hj h2=> ?_⟩
   simp only at hj
   rcases(by omega:j=0∨j=1)with rfl | rfl
   ·exact ha
   ·exact k2 _
  ·exact⟨by simp only;omega,w1⟩
 ·split
  ·next hc=>
   rw[Bool.and_eq_true,Bool.and_eq_true]at hc
   obtain⟨k1,k2⟩:=key 1 hc.1.2
   obtain⟨m1,m2⟩:=key 2 hc.2
   split
   ·refine⟨by simp only;omega,fun j hj h2=> ?_⟩
    simp only at hj
    rcases(by omega:j=0∨j=1∨j=2)with rfl | rfl | rfl
    ·exact ha
    ·exact k2 _
    ·exact m2 _
   ·exact⟨by simp only;omega,w1⟩
  ·split
   ·next hc=>
    rw[Bool.and_eq_true,Bool.and_eq_true,Bool.and_eq_true]at hc
    obtain⟨k1,k2⟩:=key 1 hc.1.1.2
    obtain⟨m1,m2⟩:=key 2 hc.1.2
    obtain⟨n1,n2⟩:=key 3 hc.2
    split
    ·refine⟨by simp only;omega,fun j hj h2=> ?_⟩
     simp only at hj
     rcases(by omega:j=0∨j=1∨j=2∨j=3)with rfl | rfl | rfl | rfl
     ·exact ha
     ·exact k2 _
     ·exact m2 _
     ·exact n2 _
    ·exact⟨by simp only;omega,w1⟩
   ·exact⟨by simp only;omega,w1⟩
structure RuneBy (q:Int→Bool)(p:UInt8→Bool):Prop where
 low:∀c:UInt8,c.toNat<128→q (c.toNat:Int)=p c
 high:∀(r:Int) (c:UInt8),128≤r→128≤c.toNat→q r=p c
theorem runN_ge {p:UInt8→Bool}{l:List UInt8}{k:Nat}(hk:k≤l.length)(h1:∀j (h:j<l.length),j<k→p l[j]=true):k≤runN p l:=by
 refine Classical.byContradiction fun h=> ?_
 have:=runN_at (p:=p) (l:=l) (by omega)
 rw[h1 _ _ (by omega)]at this;cases this
theorem run_stop {q:Int→Bool}{p:UInt8→Bool}(hq:RuneBy q p)(s:ByteArray)(pos:Nat)(h:pos<s.size)(hp:pos≤runN p s.data.toList)(hf:q ((Utf8.decode s pos).1:Nat)=false):runN p s.data.toList=pos:=by
 have hl:=size_l s
 have hpf:p (s[pos]'h)=false:=by
  by_cases ha:(s[pos]'h).toNat<128
  ·rw[decode_ascii s pos h ha]at hf
   rw[←hq.low _ ha];exact hf
  ·have:=decode_high s pos h (by omega)
   rw[←hq.high ((Utf8.decode s pos).1:Nat) _ (by omega) (by omega)];exact hf
 refine runN_is (by omega) (fun j hj hjk=> ?_) (fun _=>hpf)
 obtain⟨_,h2⟩:=runN_lt (p:=p) (l:=s.data.toList) (k:=j) (by omega)
 exact h2
theorem run_on {q:Int→Bool}{p:UInt8→Bool}(hq:RuneBy q p)(s:ByteArray)(pos:Nat)(h:pos<s.size)(hp:pos≤runN p s.data.toList)(hf:q ((Utf8.decode s pos).1:Nat)=true):pos+(Utf8.decode s pos).2≤runN p s.data.toList∧1≤(Utf8.decode s pos).2∧pos+(Utf8.decode s pos).2≤s.size:=by
 have hl:=size_l s
 by_cases ha:(s[pos]'h).toNat<128
 ·have e:=decode_ascii s pos h ha
  rw[e]at hf⊢
  refine⟨runN_ge (by simp only;omega) fun j hj hjk=> ?_,Nat.le_refl _,by simp only;omega⟩
  simp only at hjk
  by_cases hjp:j<pos
  ·obtain⟨_,h2⟩:=runN_lt (p:=p) (l:=s.data.toList) (k:=j) (by omega)
   exact h2
  ·obtain rfl:j=pos:=by omega
   have:=hq.low (s[j]'h) ha
   rw[←get_l s j h,←this];exact hf
 ·have hw:=decode_high s pos h (by omega)
  obtain⟨b1,b2⟩:=decode_bytes s pos h (by omega)
  refine⟨runN_ge (by omega) fun j hj hjk=> ?_,hw.2,b1⟩
  by_cases hjp:j<pos
  ·obtain⟨_,h2⟩:=runN_lt (p:=p) (l:=s.data.toList) (k:=j) (by omega)
   exact h2
  ·have hj2:j<s.size:=by omega
   obtain⟨d,rfl⟩:∃d,j=pos+d:=⟨j - pos,by omega⟩
   have h3:=b2 d (by omega) hj2
   rw[←get_l s (pos+d) hj2,←hq.high ((Utf8.decode s pos).1:Nat) _ (by omega) h3]
   exact hf
theorem run_fin {p:UInt8→Bool}(s:ByteArray)(pos:Nat)(h:¬pos<s.size)(hp:pos≤runN p s.data.toList):runN p s.data.toList=s.size:=by
 have:=runN_le p s.data.toList
 rw[size_l]at this
 omega
def qDig (r:Int):Bool:=decide (48≤r) && decide (r≤57)
def qIn (r:Int):Bool:=(decide (97≤r) && decide (r≤122)) || (decide (65≤r) && decide (r≤90)) || decide (r=95) || qDig r
theorem byDig:RuneBy qDig isDig:=⟨fun c h=>by simp only[qDig,isDig];rw[Bool.eq_iff_iff];simp only[Bool.and_eq_true,decide_eq_true_eq];omega,fun r c h1 h2=>by simp only[qDig,isDig];rw[Bool.eq_iff_iff];simp only[Bool.and_eq_true,decide_eq_true_eq];omega⟩
theorem byIn:RuneBy qIn isIn:=⟨fun c h=>by simp only[qIn,qDig,isIn,isLet,isDig];rw[Bool.eq_iff_iff];simp only[Bool.or_eq_true,Bool.and_eq_true,decide_eq_true_eq];omega,fun r c h1 h2=>by simp only[qIn,qDig,isIn,isLet,isDig];rw[Bool.eq_iff_iff];simp only[Bool.or_eq_true,Bool.and_eq_true,decide_eq_true_eq];omega⟩
end
section
theorem keyB_hit {l:List UInt8}{i:Nat}(hi:i<keysL.length)(h:keysL[i]=l):keyB l=true:=by
 unfold keyB
 rw[List.contains_iff_mem,←h]
 exact List.getElem_mem hi
theorem keyB_miss {l:List UInt8}(h:∀i (hi:i<keysL.length),keysL[i]≠l):keyB l=false:=by
 unfold keyB
 rw[Bool.eq_false_iff,ne_eq,List.contains_iff_mem]
 intro hm
 obtain⟨i,hi,e⟩:=List.getElem_of_mem hm
 exact h i hi e
end
section
open Go.RowKit
theorem digit_any (r:Int)(w:World):Calls Tryz.prog 132 #[.int .i32 r] w fun e w'=>e= .returned (.bool (qDig r))∧w=w':=by
 unfold qDig
 by_cases h1:48≤r
 ·have e1:decide (48≤r)=true:=by simpa using h1
  have E:Hid ((decide (48≤r) && decide (r≤57))=decide (r≤57)):=by show _=_;rw[e1];rfl
  go_enter Tryz.func132,Tryz.ntmps132
  go_wp2
  go_ret
  exact⟨by rw[E.out];rfl,rfl⟩
 ·have e1:decide (48≤r)=false:=by simpa using h1
  go_enter Tryz.func132,Tryz.ntmps132
  go_wp2
  go_ret
  exact⟨rfl,rfl⟩
theorem inner_any (r:Int)(w:World):Calls Tryz.prog 133 #[.int .i32 r] w fun e w'=>e= .returned (.bool (qIn r))∧w=w':=by
 have HD:=Lib.hid (fun W=>digit_any r W)
 have e97:(decide (97≤r)=true∨decide (97≤r)=false):=by cases decide (97≤r)<;>simp
 have e122:(decide (r≤122)=true∨decide (r≤122)=false):=by cases decide (r≤122)<;>simp
 have e65:(decide (65≤r)=true∨decide (65≤r)=false):=by cases decide (65≤r)<;>simp
 have e90:(decide (r≤90)=true∨decide (r≤90)=false):=by cases decide (r≤90)<;>simp
 have e95:((r == 95)=true∨(r == 95)=false):=by cases (r == 95)<;>simp
 have q95:decide (r=95)=(r == 95):=by rw[Bool.eq_iff_iff];simp
 have E:Hid (qIn r=((decide (97≤r) && decide (r≤122)) || (decide (65≤r) && decide (r≤90)) || (r == 95) || qDig r)):=by
  show _=_
  unfold qIn;rw[q95]
 clear q95
 generalize qDig r=d at HD E
 have go:∀(b1 b2 b3 b4 b5:Bool),decide (97≤r)=b1→decide (r≤122)=b2→decide (65≤r)=b3→decide (r≤90)=b4→(r == 95)=b5→Calls Tryz.prog 133 #[.int .i32 r] w fun e w'=>e= .returned (.bool ((b1 && b2) || (b3 && b4) || b5 || d))∧w=w':=fun b1 b2 b3 b4 b5 h1 h2 h3 h4 h5=>by
  clear E e97 e122 e65 e90 e95
  cases b1<;>cases b2<;>cases b3<;>cases b4<;>cases b5
  all_goals
   go_enter Tryz.func133,Tryz.ntmps133
   first
    | (go_wp2;go_ret;exact⟨rfl,rfl⟩)
    | (go_wp2_with fail;refine(HD.out _).mono ?_;rintro e w1 ⟨rfl,rfl⟩;go_wp2;go_ret;exact⟨rfl,rfl⟩)
 rw[E.out]
 exact go _ _ _ _ _ rfl rfl rfl rfl rfl
theorem run_any (g:Nat)(q:Int→Bool)(p:UInt8→Bool)(hq:RuneBy q p)(eg:∀args w,(callFunc g args).run Tryz.prog w= .ok (.enter g args) w)(hf:∀r W,Calls Tryz.prog g #[.int .i32 r] W fun e w'=>e= .returned (.bool (q r))∧W=w')(s:ByteArray)(w:World):
 Calls Tryz.prog 131 #[.string s,.func (.func g) #[] #[]] w fun e w'=>e= .returned (.int .i64 (runN p s.data.toList))∧Below w.heap.size w w':=by
 have HS:=Lib.hid (run_stop hq s)
 have HO:=Lib.hid (run_on hq s)
 have HE:=Lib.hid (run_fin (p:=p) s)
 have HF:=Lib.hid hf
 have HB:=Lib.hid (fun pos=>(show Below w.heap.size w (w.iter s pos) from(Below.refl _ w).alloc (Nat.le_refl _) _))
 clear hq hf
 generalize runN p s.data.toList=N at HS HO HE
 go_enter Tryz.func131,Tryz.ntmps131
 go_wp2
 go_loopw [5] (fun _ wr=>∃pos:Nat,wr=w.iter s pos∧pos≤N) (fun _ wr=>s.size - wr.iterPos w.heap.size)
 case atStart=>exact⟨0,rfl,Nat.zero_le _⟩
 case round=>
  obtain⟨pos,rfl,hp⟩:=hrel
  by_cases hlt:pos<s.size
  ·have hnx:∀ty,(Instr.next (.pointer (some ⟨w.heap.size,0,none⟩)) true ty).run Tryz.prog (w.iter s pos)=_:=fun ty=>run_next_any w s pos ty hlt
   have HC:=Lib.hid (HF.out ((Utf8.decode s pos).1:Nat) (w.iter s (pos+(Utf8.decode s pos).2)))
   have HS1:=Lib.hid (HS.out pos hlt hp)
   have HO1:=Lib.hid (HO.out pos hlt hp)
   cases hv:q ((Utf8.decode s pos).1:Nat)with
   | true=>
     have HC2:Hid (Calls Tryz.prog g #[.int .i32 ((Utf8.decode s pos).1:Nat)] (w.iter s (pos+(Utf8.decode s pos).2)) fun e w'=>e= .returned (.bool true)∧w.iter s (pos+(Utf8.decode s pos).2)=w'):=by
      show Calls _ _ _ _ _
      rw[←hv];exact HC.out
     obtain⟨h1,h2,h3⟩:=HO1.out hv
     clear hv HC HS1 HO1
     go_wp2_with fail
     refine HC2.out.mono ?_
     rintro e w1 ⟨rfl,rfl⟩
     go_wp2_with fail
     go_roundw
     case rel=>exact⟨_,rfl,h1⟩
     case measure=>simp;omega
   | false=>
     have HC2:Hid (Calls Tryz.prog g #[.int .i32 ((Utf8.decode s pos).1:Nat)] (w.iter s (pos+(Utf8.decode s pos).2)) fun e w'=>e= .returned (.bool false)∧w.iter s (pos+(Utf8.decode s pos).2)=w'):=by
      show Calls _ _ _ _ _
      rw[←hv];exact HC.out
     obtain rfl:=HS1.out hv
     clear hv HC HS1 HO1
     go_wp2_with fail
     refine HC2.out.mono ?_
     rintro e w1 ⟨rfl,rfl⟩
     go_wp2_with fail
     go_ret
     exact⟨rfl,HB.out _⟩
  ·have hnx:∀ty,(Instr.next (.pointer (some ⟨w.heap.size,0,none⟩)) true ty).run Tryz.prog (w.iter s pos)=_:=fun ty=>run_next_end w s pos ty hlt
   obtain rfl:=HE.out pos hlt hp
   go_wp2
   go_ret
   exact⟨rfl,HB.out _⟩
theorem rdigit_run (s:ByteArray)(w:World):Calls Tryz.prog 131 #[.string s,.func (.func 132) #[] #[]] w fun e w'=>e= .returned (.int .i64 (runN isDig s.data.toList))∧Below w.heap.size w w':=
 run_any _ qDig isDig byDig (enters_of Tryz.func132 (by kernel_rfl) rfl) (fun r W=>digit_any r W) s w
theorem rinner_run (s:ByteArray)(w:World):Calls Tryz.prog 131 #[.string s,.func (.func 133) #[] #[]] w fun e w'=>e= .returned (.int .i64 (runN isIn s.data.toList))∧Below w.heap.size w w':=
 run_any _ qIn isIn byIn (enters_of Tryz.func133 (by kernel_rfl) rfl) (fun r W=>inner_any r W) s w
theorem word_any (s:ByteArray)(w:World):Calls Tryz.prog 101 #[.string s] w fun e w'=>e= .returned (.int .i64 (wordN s.data.toList))∧Below w.heap.size w w':=by
 have HD:=Lib.hid (fun W=>rdigit_run s W)
 have HI:=Lib.hid (fun W=>rinner_run s W)
 unfold wordN
 by_cases h:0<runN isDig s.data.toList
 ·rw[if_pos h]
  have hi:(0:Int)<(runN isDig s.data.toList:Int):=by omega
  generalize runN isDig s.data.toList=N at*
  go_enter Tryz.func101,Tryz.ntmps101
  go_wp2_with fail
  refine(HD.out _).mono ?_
  rintro e w1 ⟨rfl,hb⟩
  go_wp2_with fail
  go_ret
  exact⟨rfl,hb⟩
 ·rw[if_neg h]
  have hi:¬(0:Int)<(runN isDig s.data.toList:Int):=by omega
  generalize runN isDig s.data.toList=N at*
  go_enter Tryz.func101,Tryz.ntmps101
  go_wp2_with fail
  refine(HD.out _).mono ?_
  rintro e w1 ⟨rfl,hb⟩
  have HB:=Lib.hid hb
  clear hb
  go_wp2_with fail
  refine(HI.out _).mono ?_
  rintro e w2 ⟨rfl,hb2⟩
  have HB2:=Lib.hid (HB.out.trans (hb2.mono HB.out.size))
  clear hb2
  go_wp2_with fail
  go_ret
  exact⟨rfl,HB2.out⟩
end
section
open Go.RowKit
def keyA (i:Nat):ByteArray:=⟨(keysL.getD i []).toArray⟩
theorem keyA_data (i:Nat):(keyA i).data.toList=keysL.getD i []:=by simp[keyA]
def keysV:List Value:=keysL.map fun l=> .string ⟨l.toArray⟩
theorem keysV_at {i:Nat}(h:i<19):keysV[i]? =some (.string (keyA i)):=by
 have h2:i<keysL.length:=h
 simp[keysV,keyA,List.getElem?_eq_getElem h2]
def belL:List Int:=[0,9,11,26,129,10,800,352,32,4]
def belV:List Value:=belL.map fun x=> .int .i64 x
structure Laid (w:World):Prop where
 keys:∀j v,keysV[j]? =some v→w.cell? ⟨1,j,none⟩=some v
 bel:∀j v,belV[j]? =some v→w.cell? ⟨0,j,none⟩=some v
theorem Laid.pos {w:World}(h:Laid w):1<w.heap.size:=block_lt_of_cell (a:=⟨1,0,none⟩) (h.keys 0 _ rfl)
theorem Laid.below {w w':World}{B:Nat}(h:Laid w)(hb:Below B w w')(hB:1<B):Laid w':=
 ⟨fun j v hv=>(hb.cell (p:=⟨1,j,none⟩) (show 1<B by omega)).trans (h.keys j v hv),fun j v hv=>(hb.cell (p:=⟨0,j,none⟩) (show 0<B by omega)).trans (h.bel j v hv)⟩
theorem Laid.up {w w':World}(h:Laid w)(hb:Below w.heap.size w w'):Laid w':=h.below hb h.pos
theorem keyA_ne {s:ByteArray}{i:Nat}:((keyA i).toList == s.toList)=decide (keysL.getD i []=s.data.toList):=by
 rw[Bool.eq_iff_iff]
 simp only[Lib.toList_data,keyA_data,beq_iff_eq,decide_eq_true_eq]
theorem keyB_hit2 {s:ByteArray}{i:Nat}(h:i<19)(e:keysL.getD i []=s.data.toList):keyB s.data.toList=true:=
 keyB_hit (i:=i) h (by rw[List.getD_eq_getElem?_getD,List.getElem?_eq_getElem (show i<keysL.length from h)]at e;exact e)
theorem keyB_miss2 {s:ByteArray}(h:∀i,i<19→keysL.getD i []≠s.data.toList):keyB s.data.toList=false:=
 keyB_miss fun i hi e=>h i hi (by rw[List.getD_eq_getElem?_getD,List.getElem?_eq_getElem hi];exact e)
theorem key_any (s:ByteArray)(w:World)(hL:Laid w):Calls Tryz.prog 102 #[.string s] w fun e w'=>e= .returned (.bool (keyB s.data.toList))∧w=w':=by
 have hk:=hL.keys
 have HX:Hid (∀(i:Nat) W,i<19→(Instr.index 200 (.agg keysV.toArray) (.int .i64 i)).run Tryz.prog W= .ok (.string (keyA i)) W):=fun i W h=>
  run_index_list W _ 9 19 keysV i _ Tryz.underlying200 h (keysV_at h) Tryz.underlying9 (by kernel_rfl)
 have HL:Hid (keysV.length=19):=rfl
 have HH:=Lib.hid (fun i (h:i<19)=>keyB_hit2 (s:=s) h)
 have HM:=Lib.hid (keyB_miss2 (s:=s))
 have hk':∀j v,keysV[j]? =some v→w.cell? ((⟨1,0,none⟩:Addr).add j)=some v:=fun j v hv=>by
  rw[show(⟨1,0,none⟩:Addr).add j=⟨1,j,none⟩ by unfold Addr.add;split<;>simp_all]
  exact hk j v hv
 have HK:=Lib.hid hk'
 clear hL hk hk'
 generalize keysV=kv at*
 generalize keyB s.data.toList=r at*
 go_enter Tryz.func102,Tryz.ntmps102
 go_wp2_with (refine wpList_load_list rfl 200 _ rfl ⟨1,0,none⟩ rfl kv _ HK.out Tryz.underlying200 rfl (by rw[HL.out];kernel_rfl) ?_)
 go_loop [6] (fun i=>∃j:Nat,j≤19∧i= .int .i64 j∧Hid (∀q,q<j→keysL.getD q []≠s.data.toList)) (fun i=>19 - (intOf i).toNat)
 case atStart=>exact⟨0,Nat.zero_le _,rfl,fun q h=>absurd h (Nat.not_lt_zero _)⟩
 case round=>
  obtain⟨j,hj,rfl,hno⟩:=hrel
  by_cases hlt:j<19
  ·have hlti:(j:Int)<19:=by omega
   have hx:∀W,(Instr.index 200 (.agg kv.toArray) (.int .i64 j)).run Tryz.prog W= .ok (.string (keyA j)) W:=fun W=>HX.out j W hlt
   have he:=keyA_ne (s:=s) (i:=j)
   by_cases hq:keysL.getD j []=s.data.toList
   ·obtain rfl:=HH.out j hlt hq
    rw[decide_eq_true hq]at he
    clear hq
    go_wp2
    go_ret
    exact⟨rfl,rfl⟩
   ·have hno2:Hid (∀q,q<j+1→keysL.getD q []≠s.data.toList):=fun q h=>by
     by_cases e:q=j
     ·rw[e];exact hq
     ·exact hno.out q (by omega)
    rw[decide_eq_false hq]at he
    clear hq
    go_wp2
    go_round
    case rel=>exact⟨j+1,by omega,by go_num,hno2⟩
    case measure=>simp[intOf];omega
  ·obtain rfl:j=19:=by omega
   obtain rfl:=HM.out (fun i h=>hno.out i h)
   go_wp2
   go_ret
   exact⟨rfl,rfl⟩
end
section
open Go.RowKit
def nameB (l:List UInt8):Bool:=decide (0<l.length) && decide (l.length≤32) && decide (wordN l=l.length) && !keyB l
end
section
open Go.RowKit
theorem nameB_of {l:List UInt8}(h0:0<l.length)(h1:l.length≤32):nameB l=(decide (wordN l=l.length) && !keyB l):=by
 unfold nameB;simp[h0,h1]
theorem nameB_no {l:List UInt8}(h:¬(0<l.length∧l.length≤32)):nameB l=false:=by
 unfold nameB
 rw[Bool.eq_false_iff]
 intro e
 simp only[Bool.and_eq_true,decide_eq_true_eq]at e
 exact h ⟨e.1.1.1,e.1.1.2⟩
theorem name_any (s:ByteArray)(w:World)(hs:s.size≤9223372036854775807)(hL:Laid w):Calls Tryz.prog 92 #[.string s] w fun e w'=>e= .returned (.bool (nameB s.data.toList))∧Below w.heap.size w w':=by
 have hsz:=size_l s
 have HW:=Lib.hid (fun W=>word_any s W)
 have HK:=Lib.hid (fun W (hb:Below w.heap.size w W)=>key_any s W (hL.up hb))
 by_cases hok:0<s.size∧s.size≤32
 ·rw[nameB_of (by omega) (by omega)]
  have h0:(0:Int)<(s.size:Int):=by omega
  have h1:(s.size:Int)≤32:=by omega
  have hwl:=wordN_le s.data.toList
  rw[hsz]at hwl⊢
  generalize wordN s.data.toList=N at*
  generalize keyB s.data.toList=kb at*
  clear hL hsz hok
  by_cases hN:N=s.size
  ·subst hN
   have hNN:((s.size:Int) == (s.size:Int))=true:=by simp
   go_enter Tryz.func92,Tryz.ntmps92
   go_wp2_with fail
   refine(HW.out _).mono ?_
   rintro e w1 ⟨rfl,hb1⟩
   have B1:=Lib.hid hb1
   clear hb1 HW
   go_wp2_with fail
   refine(HK.out _ B1.out).mono ?_
   rintro e w2 ⟨rfl,rfl⟩
   go_wp2
   go_ret
   exact⟨by simp,B1.out⟩
  ·have hNN:((N:Int) == (s.size:Int))=false:=by rw[Bool.eq_false_iff];simp only[ne_eq,beq_iff_eq];omega
   have E:Hid ((decide (N=s.size) && !kb)=false):=by show _=_;rw[decide_eq_false hN];rfl
   clear hN
   go_enter Tryz.func92,Tryz.ntmps92
   go_wp2_with fail
   refine(HW.out _).mono ?_
   rintro e w1 ⟨rfl,hb1⟩
   have B1:=Lib.hid hb1
   clear hb1 HW
   go_wp2
   go_ret
   exact⟨by rw[E.out];rfl,B1.out⟩
 ·rw[nameB_no (by rw[hsz];exact hok)]
  by_cases h0:0<s.size
  ·have h0i:(0:Int)<(s.size:Int):=by omega
   have h1:¬(s.size:Int)≤32:=by omega
   clear hL hsz hok
   go_enter Tryz.func92,Tryz.ntmps92
   go_wp2
   go_ret
   exact⟨rfl,Below.refl _ _⟩
  ·have h0i:¬(0:Int)<(s.size:Int):=by omega
   clear hL hsz hok
   go_enter Tryz.func92,Tryz.ntmps92
   go_wp2
   go_ret
   exact⟨rfl,Below.refl _ _⟩
end
section
open Go.ChangeShapes Go.WideShapes Go.ChangeAt Go.RowKit
theorem Tryz.own:ownKnob Tryz.prog.godebug=none:=by kernel_rfl
theorem Tryz.laidOut:laidOutB Tryz.prog=true:=by kernel_rfl
def laidL:List (String×DataW Unit):=[("trammel/scan.keys",Rows.laid_trammel_scan_keys),("trammel/show.belongs",Rows.laid_trammel_show_belongs)]
theorem laid_tail {P:Program}{x:String×DataW Unit}{l:List (String×DataW Unit)}{w:World}(h:laidMet P (x :: l) w):laidMet P l w:=by
 obtain⟨ps,h1,h2,h3⟩:=h
 obtain⟨g,t,cs,fuel,p,q,_,_,_,_,h4,rfl⟩:=h1
 exact⟨q,h4,(List.nodup_append.1 h2).2.1,fun b off hb=>h3 b off (List.mem_append.2 (.inr hb))⟩
theorem laid_head {P:Program}{n:String}{d:DataW Unit}{l:List (String×DataW Unit)}{w:World}{g:Nat}{t:TypeId}(h:laidMet P ((n,d) :: l) w)(hg:P.globalNamed n=some g)(ht:(P.globals[g]?).map (·.type)=some t):
 ∃cs fuel p,w.var? P n=some cs∧DataW.trod (fun _=>()) P w 0 (fun _=>true) false fuel t cs.toList=some (d,p):=by
 obtain⟨ps,⟨g',t',cs,fuel,p,q,hg',ht',hvar,hd,_,_⟩,_⟩:=h
 obtain rfl:=Option.some.inj (hg.symm.trans hg')
 obtain rfl:=Option.some.inj (ht.symm.trans ht')
 exact⟨cs,fuel,p,hvar,hd⟩
section
variable {H:Type} {enc:TypeId×Value→H} {P:Program} {w:World} {base:Nat} {sp:Nat→Bool} {held:Bool}
theorem cells_of_strs {fuel:Nat}{t e:TypeId}{n:Nat}{cs:List Value}{zs:List (List UInt8)}{p:List MemPlace}
 (ht:P.underlying t=some (.array n e)) (he:P.underlying e=some .string) (hce:P.cellsOf e=1) (hct:P.cellsOf t=n)
 (h:DataW.trod enc P w base sp held fuel t cs=some (.agg (zs.map fun z=> .lit (.string z)),p)):cs=zs.map fun z=>Value.string ⟨z.toArray⟩:=by
 cases fuel with
 | zero=>simp[DataW.trod]at h
 | succ fuel=>
   simp only[DataW.trod,ht,hce,hct,Nat.mul_one]at h
   split at h
   ·rename_i hl
    obtain⟨xs,hm,hx⟩:=Option.map_eq_some_iff.1 h
    have hxs:xs.map (·.1)=zs.map fun z=>(DataW.lit (.string z):DataW H):=by
     have:=congrArg Prod.fst hx
     simpa using this
    have hxl:xs.length=n:=by simpa using Lib.mapM_length hm
    have hzl:zs.length=n:=by
     have:=congrArg List.length hxs
     simp at this
     omega
    apply List.ext_getElem?
    intro i
    by_cases hi:i<n
    ·obtain⟨b,hb,hf⟩:=Lib.mapM_at hm i i (by simp[hi])
     obtain⟨z,hc,rfl,_⟩:=DataW.trod_string he hf
     have h1:cs[i]? =some (.string z):=by
      have:=congrArg (·[0]?) hc
      simpa [List.getElem?_take,List.getElem?_drop]using this
     have h2:(xs.map (·.1))[i]? =some (DataW.lit (.string z.data.toList):DataW H):=by simp[hb]
     rw[hxs]at h2
     simp only[List.getElem?_map,Option.map_eq_some_iff,DataW.lit.injEq,Lit.string.injEq]at h2
     obtain⟨z',hz',e'⟩:=h2
     simp[h1,hz',e']
    ·rw[List.getElem?_eq_none (by omega),List.getElem?_eq_none (by simp;omega)]
   ·cases h
end
theorem Tryz.gK:Tryz.prog.globalNamed "trammel/scan.keys" =some 1:=by kernel_rfl
theorem Tryz.gB:Tryz.prog.globalNamed "trammel/show.belongs" =some 0:=by kernel_rfl
theorem handle_of_laid {W:World}(h0:laidMetH Tryz.prog laidL W):Laid W:=by
 have h:laidMet Tryz.prog laidL W:=h0
 obtain⟨c3,f3,p3,v3,t3⟩:=laid_head h Tryz.gK (t:=200) (by kernel_rfl)
 have k3:c3.toList=keysV:=cells_of_strs (zs:=keysL) Tryz.underlying200 Tryz.underlying9 (by kernel_rfl) (by kernel_rfl) t3
 have hb:=Lib.tabIs_of_head (k:= .i64) (zs:=belL) (rest:=[]) Tryz.gB (t:=177) (by kernel_rfl) Tryz.underlying177 Tryz.underlying3 (by kernel_rfl) (by kernel_rfl) (laid_tail h)
 refine⟨fun j v hv=> ?_,fun j v hv=> ?_⟩
 ·rw[World.var?_cell Tryz.gK v3 j,←Array.getElem?_toList,k3];exact hv
 ·rw[World.var?_cell Tryz.gB hb j,List.getElem?_toArray];exact hv
noncomputable def laidWorld (os:Os):World:=
 let w0:=World.holding Tryz.prog os ⟨#[], #[],[]⟩
 { w0 with heap:=(w0.heap.modify 1 fun
    | .cells _ t frozen=> .cells #[.string ⟨#[112,114,111,99]⟩,.string ⟨#[114,101,113,117,105,114,101,115]⟩,.string ⟨#[101,110,115,117,114,101,115]⟩,.string ⟨#[115,107,105,112]⟩,.string ⟨#[112,117,116]⟩,.string ⟨#[103,101,116]⟩,.string ⟨#[110,101,119]⟩,.string ⟨#[102,114,101,101]⟩,.string ⟨#[105,102]⟩,.string ⟨#[101,108,115,101]⟩,.string ⟨#[119,104,105,108,101]⟩,.string ⟨#[105,110,118,97,114,105,97,110,116]⟩,.string ⟨#[97,115,115,101,114,116]⟩,.string ⟨#[99,97,108,108]⟩,.string ⟨#[116,114,117,101]⟩,.string ⟨#[102,97,108,115,101]⟩,.string ⟨#[101,109,112]⟩,.string ⟨#[97,99,99]⟩,.string ⟨#[112,116,115]⟩] t frozen
    | o=>o).modify 0 fun
    | .cells _ t frozen=> .cells #[.int .i64 0,.int .i64 9,.int .i64 11,.int .i64 26,.int .i64 129,.int .i64 10,.int .i64 800,.int .i64 352,.int .i64 32,.int .i64 4] t frozen
    | o=>o }
theorem laidWorld_met (os:Os)(args:Array Value):laidMetH Tryz.prog laidL ((laidWorld os).forCall (fun _ _=>0) ⟨#[],args,[]⟩).memory:=
 (laidMet_of_run' 8 (by kernel_rfl) (by kernel_rfl):laidMet Tryz.prog laidL _)
end
end Go.Proofs.YtjbkhdbjdahbiaaGreatDoor
