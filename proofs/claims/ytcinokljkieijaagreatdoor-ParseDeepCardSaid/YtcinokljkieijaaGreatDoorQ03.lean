/- Parts of a proof. -/
import Derived.Test.YtcinokljkieijaaGreatDoorQ01
import Derived.Test.YtcinokljkieijaaGreatDoorQ02
import Derived.Lib.Strings
import Derived.Lib.IndexBytes
import Derived.Test.YtcinokljkieijaaGreatDoorQShelf
import Derived.BigRegion
import Derived.RegionTactic
import Derived.Deep.RegionHeld3
import Derived.Deep.RegionWith
set_option linter.unusedVariables false
set_option linter.unusedSimpArgs false
set_option maxHeartbeats 60000000
set_option maxRecDepth 100000
namespace Go.Proofs.YtcinokljkieijaaGreatDoor
section
open Go.RowKit Go.Extern.Stop Go.Stop Go.Extern
def Laid0 (w:World):Prop:=w.cell? ⟨1,0,none⟩=some (.iface 197 (.agg #[.pointer (some ⟨9,27,none⟩)]))
theorem Laid0.pos {w:World}(h:Laid0 w):1<w.heap.size:=block_lt_of_cell (a:=⟨1,0,none⟩) h
theorem Laid0.below {w w':World}{B:Nat}(h:Laid0 w)(hb:Below B w w')(hB:1<B):Laid0 w':=(hb.cell (p:=⟨1,0,none⟩) hB).trans h
theorem Tryz.isCompP:(Tryz.prog.info? 87).map (·.comparable)=some true:=by kernel_rfl
theorem Tryz.isSizeS:(Tryz.prog.info? 89).map (·.size)=some 2:=by kernel_rfl
theorem Tryz.neSame (g:Addr)(W:World):(binOp .neq 27 (.iface 87 (.pointer (some g))) (.iface 87 (.pointer (some g)))).run Tryz.prog W= .ok (.bool false) W:=by
 obtain⟨i,hi,hcmp⟩:=Option.map_eq_some_iff.1 Tryz.isCompP
 obtain⟨j,hj,hjs⟩:=Option.map_eq_some_iff.1 Tryz.isSizeS
 simp only[binOp]
 simp[Op.equal,Op.maxDepth,run_equalIn_iface_ptr_same (P:=Tryz.prog) W 9998 g Tryz.underlying27 Tryz.underlying87 hi hcmp hj]
theorem sis_any (g:Nat)(at' k:Int)(w:World)(hg:Laid0 w)(hgb:g<w.heap.size)(h0:w.cell? ⟨g,0,none⟩=some (.int .i64 at'))(h1:w.cell? ⟨g,1,none⟩=some (.iface 50 (.int .i64 k))):
 Calls Tryz.prog 22 #[.iface 87 (.pointer (some ⟨g,0,none⟩)),.int .i64 at',.int .i64 k] w fun e w'=>e= .returned (.bool true)∧Below w.heap.size w w':=by
 have hb0:Below w.heap.size w (w.alloc (.cells #[.pointer none] 87)):=(Below.refl _ w).alloc (Nat.le_refl _) _
 have hn:=heap_alloc_new w (.cells #[.pointer none] 87)
 have HAS:=Lib.hid (as_spot ⟨g,0,none⟩ w.heap.size (.pointer none) (w.alloc (.cells #[.pointer none] 87)) (hg.below hb0 hg.pos) ((cell_of_row _ _ _ _ _ _ hn).trans rfl) (frozen_of_row _ _ _ _ _ hn) (by simp))
 have HB0:=Lib.hid hb0
 have HIS:=Lib.hid (fun W h=>is_spotcode g k W h)
 have ne:=Tryz.neSame ⟨g,0,none⟩
 have e1:=fun W=>Tryz.eqCode k k W
 have hkk:(k == k)=true:=by simp
 have haa:(at' == at')=true:=by simp
 clear hg hn hb0
 go_enter Tryz.func22,Tryz.ntmps22
 go_wp2_with fail
 refine HAS.out.mono ?_
 rintro e w1 ⟨rfl,hc1,hb1,hz1⟩
 have q0:w1.cell? ⟨g,0,none⟩=some (.int .i64 at'):=(hb1.cell (p:=⟨g,0,none⟩) hgb).trans ((HB0.out.cell (p:=⟨g,0,none⟩) hgb).trans h0)
 have q1:w1.cell? ⟨g,1,none⟩=some (.iface 50 (.int .i64 k)):=(hb1.cell (p:=⟨g,1,none⟩) hgb).trans ((HB0.out.cell (p:=⟨g,1,none⟩) hgb).trans h1)
 have HB1:Hid (Below w.heap.size w w1):=HB0.out.trans hb1
 clear hb1 h0 h1 HAS
 go_wp2_with fail
 refine(HIS.out _ q1).mono ?_
 rintro e w2 ⟨rfl,rfl⟩
 go_wp2_with fail
 go_ret
 exact⟨rfl,HB1.out⟩
end
section
open Go.RowKit
def keyA (i:Nat):ByteArray:=⟨(keysL.getD i []).toArray⟩
def opA (i:Nat):ByteArray:=⟨(opsL.getD i []).toArray⟩
theorem keyA_data (i:Nat):(keyA i).data.toList=keysL.getD i []:=by simp[keyA]
theorem opA_data (i:Nat):(opA i).data.toList=opsL.getD i []:=by simp[opA]
def keysV:List Value:=keysL.map fun l=> .string ⟨l.toArray⟩
def opsV:List Value:=opsL.map fun l=> .string ⟨l.toArray⟩
theorem keysV_at {i:Nat}(h:i<19):keysV[i]? =some (.string (keyA i)):=by
 have h2:i<keysL.length:=h
 simp[keysV,keyA,List.getElem?_eq_getElem h2]
theorem opsV_at {i:Nat}(h:i<21):opsV[i]? =some (.string (opA i)):=by
 have h2:i<opsL.length:=h
 simp[opsV,opA,List.getElem?_eq_getElem h2]
structure Laid (w:World):Prop where
 keys:∀j v,keysV[j]? =some v→w.cell? ⟨3,j,none⟩=some v
 ops:∀j v,opsV[j]? =some v→w.cell? ⟨0,j,none⟩=some v
 syn:∃t v,w.cell? ⟨4,0,none⟩=some (.iface t v)
 rng:∃t v,w.cell? ⟨5,0,none⟩=some (.iface t v)
theorem Laid.pos {w:World}(h:Laid w):5<w.heap.size:=by
 obtain⟨t,v,h⟩:=h.rng
 exact block_lt_of_cell (a:=⟨5,0,none⟩) h
theorem Laid.below {w w':World}{B:Nat}(h:Laid w)(hb:Below B w w')(hB:5<B):Laid w':=
 ⟨fun j v hv=>(hb.cell (p:=⟨3,j,none⟩) (show 3<B by omega)).trans (h.keys j v hv),fun j v hv=>(hb.cell (p:=⟨0,j,none⟩) (show 0<B by omega)).trans (h.ops j v hv),
   by obtain⟨t,v,e⟩:=h.syn;exact⟨t,v,(hb.cell (p:=⟨4,0,none⟩) (show 4<B by omega)).trans e⟩,by obtain⟨t,v,e⟩:=h.rng;exact⟨t,v,(hb.cell (p:=⟨5,0,none⟩) hB).trans e⟩⟩
theorem Laid.up {w w':World}(h:Laid w)(hb:Below w.heap.size w w'):Laid w':=h.below hb h.pos
theorem keyA_ne {s:ByteArray}{i:Nat}:((keyA i).toList == s.toList)=decide (keysL.getD i []=s.data.toList):=by
 rw[Bool.eq_iff_iff]
 simp only[Lib.toList_data,keyA_data,beq_iff_eq,decide_eq_true_eq]
theorem keyB_hit2 {s:ByteArray}{i:Nat}(h:i<19)(e:keysL.getD i []=s.data.toList):keyB s.data.toList=true:=
 keyB_hit (i:=i) h (by rw[List.getD_eq_getElem?_getD,List.getElem?_eq_getElem (show i<keysL.length from h)]at e;exact e)
theorem keyB_miss2 {s:ByteArray}(h:∀i,i<19→keysL.getD i []≠s.data.toList):keyB s.data.toList=false:=
 keyB_miss fun i hi e=>h i hi (by rw[List.getD_eq_getElem?_getD,List.getElem?_eq_getElem hi];exact e)
theorem key_any (s:ByteArray)(w:World)(hL:Laid w):Calls Tryz.prog 131 #[.string s] w fun e w'=>e= .returned (.bool (keyB s.data.toList))∧w=w':=by
 have hk:=hL.keys
 have HX:Hid (∀(i:Nat) W,i<19→(Instr.index 216 (.agg keysV.toArray) (.int .i64 i)).run Tryz.prog W= .ok (.string (keyA i)) W):=fun i W h=>
  run_index_list W _ 9 19 keysV i _ Tryz.underlying216 h (keysV_at h) Tryz.underlying9 (by kernel_rfl)
 have HL:Hid (keysV.length=19):=rfl
 have HH:=Lib.hid (fun i (h:i<19)=>keyB_hit2 (s:=s) h)
 have HM:=Lib.hid (keyB_miss2 (s:=s))
 have hk':∀j v,keysV[j]? =some v→w.cell? ((⟨3,0,none⟩:Addr).add j)=some v:=fun j v hv=>by
  rw[show(⟨3,0,none⟩:Addr).add j=⟨3,j,none⟩ by unfold Addr.add;split<;>simp_all]
  exact hk j v hv
 have HK:=Lib.hid hk'
 clear hL hk hk'
 generalize keysV=kv at*
 generalize keyB s.data.toList=r at*
 go_enter Tryz.func131,Tryz.ntmps131
 go_wp2_with (refine wpList_load_list rfl 216 _ rfl ⟨3,0,none⟩ rfl kv _ HK.out Tryz.underlying216 rfl (by rw[HL.out];kernel_rfl) ?_)
 go_loop [6] (fun i=>∃j:Nat,j≤19∧i= .int .i64 j∧Hid (∀q,q<j→keysL.getD q []≠s.data.toList)) (fun i=>19 - (intOf i).toNat)
 case atStart=>exact⟨0,Nat.zero_le _,rfl,fun q h=>absurd h (Nat.not_lt_zero _)⟩
 case round=>
  obtain⟨j,hj,rfl,hno⟩:=hrel
  by_cases hlt:j<19
  ·have hlti:(j:Int)<19:=by omega
   have hx:∀W,(Instr.index 216 (.agg kv.toArray) (.int .i64 j)).run Tryz.prog W= .ok (.string (keyA j)) W:=fun W=>HX.out j W hlt
   have he:=keyA_ne (s:=s) (i:=j)
   by_cases hq:keysL.getD j []=s.data.toList
   ·obtain rfl:=HH.out j hlt hq
    rw[decide_eq_true hq]at he
    clear hq
    go_wp2
    go_ret
    exact⟨rfl,rfl⟩
   ·have hno2:Hid (∀q,q<j+1→keysL.getD q []≠s.data.toList):=fun q h=>by
     by_cases e:q=j
     ·rw[e];exact hq
     ·exact hno.out q (by omega)
    rw[decide_eq_false hq]at he
    clear hq
    go_wp2
    go_round
    case rel=>exact⟨j+1,by omega,by go_num,hno2⟩
    case measure=>simp[intOf];omega
  ·obtain rfl:j=19:=by omega
   obtain rfl:=HM.out (fun i h=>hno.out i h)
   go_wp2
   go_ret
   exact⟨rfl,rfl⟩
end
section
open Go.RowKit
def BlankEnd (s:ByteArray)(w:World)(e:Ending)(w':World):Prop:=
 ∃b:Nat,e= .returned (.int .i64 b)∧Skips s.data.toList b∧NoSkip (s.data.toList.drop b)∧b≤s.size∧Below w.heap.size w w'
theorem slash_two {l:List UInt8}{k:Nat}:(l.drop k).take 2=[47,47]↔∃h:k+1<l.length,(l[k]'(by omega)).toNat=47∧(l[k+1]'h).toNat=47:=by
 constructor
 ·intro e
  have hl:=congrArg List.length e
  simp only[List.length_take,List.length_drop,List.length_cons,List.length_nil]at hl
  have h:k+1<l.length:=by omega
  refine⟨h, ?_⟩
  rw[cons_of (by omega),cons_of h,List.take_succ_cons,List.take_succ_cons,List.take_zero]at e
  injection e with e1 e2
  injection e2 with e2 _
  rw[e1,e2];exact⟨rfl,rfl⟩
 ·rintro⟨h,h0,h1⟩
  rw[cons_of (by omega),cons_of h,List.take_succ_cons,List.take_succ_cons,List.take_zero]
  rw[show l[k]'(by omega)=47 from UInt8.toNat_inj.1 h0,show l[k+1]'h=47 from UInt8.toNat_inj.1 h1]
theorem noSkip_at {l:List UInt8}{k:Nat}(h0:runN isBl (l.drop k)=0)(h1:(l.drop k).take 2≠[47,47]):NoSkip (l.drop k):=by
 refine noSkip_of h0 (fun⟨h,a,b⟩=>h1 (slash_two.2 ?_))
 rw[List.length_drop]at h
 rw[List.getElem_drop]at a b
 exact⟨by omega,by simpa using a,b⟩
theorem slice_mid {s:ByteArray}{a b:Nat}{x y:Int}(W:World)(hx:x=a)(hy:y=b)(hab:a≤b)(hb:b≤s.size):
 (Instr.slice 9 (.string s) (some (.int .i64 x)) (some (.int .i64 y)) none).run Tryz.prog W= .ok (.string (s.extract a b)) W:=by
 subst hx hy
 exact run_slice_string W _ s .i64 .i64 a b Tryz.underlying9 (by omega) (by omega) (by omega)
theorem slash_cmp (s:ByteArray)(a:Nat):((s.extract a (a+2)).toList == [47,47])=decide ((s.data.toList.drop a).take 2=[47,47]):=by
 rw[Bool.eq_iff_iff]
 simp only[Lib.toList_data,Lib.extract_data,beq_iff_eq,decide_eq_true_eq,Nat.add_sub_cancel_left]
theorem blanks_any (s:ByteArray)(w:World)(hs:s.size≤1000000):Calls Tryz.prog 33 #[.string s] w (BlankEnd s w):=by
 have hsz:=size_l s
 have HRB:=Lib.hid (fun(k:Nat) W=>rblank_run (s.extract k s.size) W)
 have HRN:=Lib.hid (fun(k:Nat) W=>rnotnl_run (s.extract k s.size) W)
 have HZ:=Lib.hid hsz
 clear hsz
 go_enter Tryz.func33,Tryz.ntmps33
 go_wp2
 go_loopw [3] (fun i wr=>∃k:Nat,k≤s.size∧i= .int .i64 k∧Hid (Skips s.data.toList k)∧Hid (Below w.heap.size w wr)) (fun i _=>s.size - (intOf i).toNat)
 case atStart=>exact⟨0,Nat.zero_le _,rfl,Skips.start,Below.refl _ _⟩
 case round=>
  obtain⟨k,hk,rfl,hsk,hb⟩:=hrel
  obtain⟨wo,rfl⟩:∃wo:World,wo=wr:=⟨_,rfl⟩
  have HB1:=Lib.hid (HRB.out k wo)
  rw[Lib.extract_to_end]at HB1
  have h1:=runN_le isBl (s.data.toList.drop k)
  rw[List.length_drop,HZ.out]at h1
  obtain⟨N,hN⟩:∃N,runN isBl (s.data.toList.drop k)=N:=⟨_,rfl⟩
  rw[hN]at HB1 h1
  have HSB:=Lib.hid (hsk.out.blanks N (by omega))
  have HN:=Lib.hid hN
  clear hN
  have hkN:k+N≤s.size:=by omega
  by_cases hA:k+N+2≤s.size
  ·have hAi:(k:Int)+(N:Int)+2≤(s.size:Int):=by omega
   have hsl:∀W,(Instr.slice 9 (.string s) (some (.int .i64 ((k:Int)+(N:Int)))) (some (.int .i64 ((k:Int)+(N:Int)+2))) none).run Tryz.prog W= .ok (.string (s.extract (k+N) (k+N+2))) W:=fun W=>
    slice_mid (a:=k+N) (b:=k+N+2) W (by omega) (by omega) (by omega) hA
   have ht:=slash_cmp s (k+N)
   by_cases hS:(s.data.toList.drop (k+N)).take 2=[47,47]
   ·rw[decide_eq_true hS]at ht
    obtain⟨q1,q2⟩:=HSB.out.comment (slash_two.1 hS).1 (slash_two.1 hS).2.1 (slash_two.1 hS).2.2
    have HSM:=Lib.hid q1
    have HR2:=Lib.hid (HRN.out (k+N))
    simp only[Lib.extract_to_end]at HR2
    have h2:=runN_le notNl (s.data.toList.drop (k+N))
    rw[List.length_drop,HZ.out]at h2
    generalize runN notNl (s.data.toList.drop (k+N))=M at*
    have hNM:((N:Int)+(M:Int) == 0)=false:=by rw[Bool.eq_false_iff];simp only[ne_eq,beq_iff_eq];omega
    have hkM:k+N+M≤s.size:=by omega
    have hkMi:(k:Int)+((N:Int)+(M:Int))=((k+N+M:Nat):Int):=by omega
    have hM:=Lib.hid hkMi
    generalize s.extract (k+N) (k+N+2)=t at*
    clear hS q1 hkMi HRB HRN
    go_wp2_with fail
    refine HB1.out.mono ?_
    rintro e w1 ⟨rfl,hb1⟩
    have B1:=Lib.hid (hb.out.trans (hb1.mono hb.out.size))
    clear hb1 HB1 hb
    go_wp2_with fail
    refine(HR2.out _).mono ?_
    rintro e w2 ⟨rfl,hb2⟩
    have B2:=Lib.hid (B1.out.trans (hb2.mono B1.out.size))
    clear hb2 HR2 B1
    go_wp2_with fail
    go_roundw
    case rel=>exact⟨k+N+M,hkM,by rw[hM.out],HSM,B2⟩
    case measure=>simp[intOf];omega
   ·rw[decide_eq_false hS]at ht
    by_cases h0:N=0
    ·subst h0
     have HNS:=Lib.hid (noSkip_at (k:=k) HN.out hS)
     simp only[Int.natCast_zero,Int.add_zero,Nat.add_zero]at hsl ht hAi HB1
     generalize s.extract k (k+2)=t at*
     clear hS HRB HRN
     go_wp2_with fail
     refine HB1.out.mono ?_
     rintro e w1 ⟨rfl,hb1⟩
     have B1:=Lib.hid (hb.out.trans (hb1.mono hb.out.size))
     clear hb1 HB1 hb
     go_wp2_with fail
     go_ret
     exact⟨k,rfl,hsk.out,HNS.out,hk,B1.out⟩
    ·have h0b:((N:Int) == 0)=false:=by rw[Bool.eq_false_iff];simp only[ne_eq,beq_iff_eq];omega
     generalize s.extract (k+N) (k+N+2)=t at*
     clear hS HRB HRN
     go_wp2_with fail
     refine HB1.out.mono ?_
     rintro e w1 ⟨rfl,hb1⟩
     have B1:=Lib.hid (hb.out.trans (hb1.mono hb.out.size))
     clear hb1 HB1 hb
     go_wp2_with fail
     go_roundw
     case rel=>exact⟨k+N,hkN,by go_num,HSB,B1⟩
     case measure=>simp[intOf];omega
  ·have hAi:¬(k:Int)+(N:Int)+2≤(s.size:Int):=by omega
   have hS:(s.data.toList.drop (k+N)).take 2≠[47,47]:=fun e=>by
    have:=(slash_two.1 e).1
    rw[HZ.out]at this;omega
   by_cases h0:N=0
   ·subst h0
    have HNS:=Lib.hid (noSkip_at (k:=k) HN.out hS)
    simp only[Int.natCast_zero,Int.add_zero,Nat.add_zero]at hAi HB1
    clear hS HRB HRN
    go_wp2_with fail
    refine HB1.out.mono ?_
    rintro e w1 ⟨rfl,hb1⟩
    have B1:=Lib.hid (hb.out.trans (hb1.mono hb.out.size))
    clear hb1 HB1 hb
    go_wp2_with fail
    go_ret
    exact⟨k,rfl,hsk.out,HNS.out,hk,B1.out⟩
   ·have h0b:((N:Int) == 0)=false:=by rw[Bool.eq_false_iff];simp only[ne_eq,beq_iff_eq];omega
    clear hS HRB HRN
    go_wp2_with fail
    refine HB1.out.mono ?_
    rintro e w1 ⟨rfl,hb1⟩
    have B1:=Lib.hid (hb.out.trans (hb1.mono hb.out.size))
    clear hb1 HB1 hb
    go_wp2_with fail
    go_roundw
    case rel=>exact⟨k+N,hkN,by go_num,HSB,B1⟩
    case measure=>simp[intOf];omega
end
section
open Go.RowKit
def tok0:Tok:=⟨0,0,⟨#[]⟩⟩
def tcells (ts:List Tok):List Value:=ts.flatMap fun x=>[.int .i64 x.kind,.int .i64 (x.at':Int),.string x.text]
theorem tcells_append (xs ys:List Tok):tcells (xs ++ ys)=tcells xs ++ tcells ys:=by simp[tcells]
theorem tcells_get:∀(xs:List Tok) (i:Nat),i<xs.length→(tcells xs)[i*3]? =some (.int .i64 (xs.getD i tok0).kind)∧(tcells xs)[i*3+1]? =some (.int .i64 ((xs.getD i tok0).at':Int))∧(tcells xs)[i*3+2]? =some (.string (xs.getD i tok0).text)
 | [],i,h=>absurd h (Nat.not_lt_zero i)
 | x :: xs,0,_=>⟨rfl,rfl,rfl⟩
 | x :: xs,i+1,h=>by
   have:=tcells_get xs i (by simpa using h)
   rw[show(i+1)*3=i*3+3 by omega,show i*3+3+1=i*3+1+3 by omega,show i*3+3+2=i*3+2+3 by omega]
   exact this
def TRow (B:Nat)(ts:List Tok)(v:Value)(w:World):Prop:=w.ownsRow B 41 3 v ts.length (tcells ts)
theorem TRow.nil (B:Nat)(w:World):TRow B [] (.slice none 0 0) w:=World.ownsRow_nil _ _ _ _
theorem TRow.below {B:Nat}{ts:List Tok}{v:Value}{w w':World}(h:TRow B ts v w)(hb:Below w.heap.size w w'):TRow B ts v w':=
 World.ownsRow.kept (row:=none) h ⟨hb.os,hb.tape,hb.output,hb.size,fun q hq _=>hb.block q hq⟩ (by cases v.ownBlock<;>simp)
theorem TRow.slice {B:Nat}{ts:List Tok}{v:Value}{w:World}(h:TRow B ts v w):∃a cap,v= .slice a ts.length cap:=Pak.own_slice h
def TLies (B:Nat)(w:World)(a:Option Addr)(ts:List Tok):Prop:=
 ∀i,i<ts.length→∃b off,a=some ⟨b,off,none⟩∧b<B∧w.cell? ⟨b,off+i*3,none⟩=some (.int .i64 (ts.getD i tok0).kind)∧w.cell? ⟨b,off+i*3+1,none⟩=some (.int .i64 ((ts.getD i tok0).at':Int))∧w.cell? ⟨b,off+i*3+2,none⟩=some (.string (ts.getD i tok0).text)
theorem TLies.below {B:Nat}{w w':World}{a:Option Addr}{ts:List Tok}(h:TLies B w a ts)(hb:Below B w w'):TLies B w' a ts:=fun i hi=>by
 obtain⟨b,off,ha,hlt,h1,h2,h3⟩:=h i hi
 exact⟨b,off,ha,hlt,(hb.cell (p:=⟨b,_,none⟩) hlt).trans h1,(hb.cell (p:=⟨b,_,none⟩) hlt).trans h2,(hb.cell (p:=⟨b,_,none⟩) hlt).trans h3⟩
theorem TRow.lies {B:Nat}{ts:List Tok}{v:Value}{w:World}(hr:TRow B ts v w):∃a cap,v= .slice a ts.length cap∧TLies w.heap.size w a ts:=by
 have hc:=fun g=>World.ownsRow.cells hr (g:=g)
 have hlt:=World.ownsRow.lt hr
 obtain⟨_,h1 | ⟨g,cap,cur,hv,h2⟩⟩:=hr
 ·refine⟨none,0,by rw[h1.1,h1.2],fun i hi=> ?_⟩
  omega
 ·subst hv
  refine⟨some ⟨g,0,none⟩,cap,rfl,fun i hi=> ?_⟩
  obtain⟨g1,g2,g3⟩:=tcells_get ts i hi
  have c1:=hc g rfl _ _ g1
  have c2:=hc g rfl _ _ g2
  have c3:=hc g rfl _ _ g3
  have ea:∀k,(⟨g,0,none⟩:Addr).add k=⟨g,0+k,none⟩:=fun k=>by unfold Addr.add;split<;>simp_all
  rw[ea]at c1 c2 c3
  exact⟨g,0,rfl,(hlt g rfl).2,c1,c2,c3⟩
def resR (R:Res):Int×Int×List Tok:=match R with
 | .ok ts=>(0, -1,ts)
 | .bad c i=>(c,i,[])
def resOf (s:ByteArray):Int×Int×List Tok:=if 65536<s.size then(2, -1,[]) else resR (scanF s.data.toList.length s.data.toList 0 [])
end
section
open Go.RowKit
def tokOut (k:Int)(t:ByteArray)(c:Int):Value:= .tuple #[.agg #[.int .i64 k,.int .i64 0,.string t],.int .i64 c]
theorem nametok_any (s:ByteArray)(w:World)(hs:s.size≤1000000)(hL:Laid w):Calls Tryz.prog 78 #[.string s] w fun e w'=>e= .returned (if 32<s.size then tokOut 0 ⟨#[]⟩ 2 else tokOut (if keyB s.data.toList then 2 else 1) s 0)∧Below w.heap.size w w':=by
 have hA:Below w.heap.size w (w.alloc (.cells #[.int .i64 0,.int .i64 0,.string ⟨#[]⟩] 41)):=(Below.refl _ w).alloc (Nat.le_refl _) _
 have hB:∀cs,Below w.heap.size w (w.alloc (.cells cs 41)):=fun cs=>(Below.refl _ w).alloc (Nat.le_refl _) _
 have HB:=Lib.hid hB
 by_cases h:32<s.size
 ·rw[if_pos h]
  have hi:(32:Int)<(s.size:Int):=by omega
  clear hA hB hL
  go_enter Tryz.func78,Tryz.ntmps78
  go_wp2
  exact bodyPost_ret (v:=tokOut 0 ⟨#[]⟩ 2) (by simp[results,Tryz.results78,go_sem,tokOut]) rfl ⟨rfl,HB.out _⟩
 ·rw[if_neg h]
  have hi:¬(32:Int)<(s.size:Int):=by omega
  have HK:=Lib.hid (key_any s _ (hL.up hA))
  clear hA hB hL
  cases hk:keyB s.data.toList with
  | true=>
    rw[hk]at HK
    clear hk
    go_enter Tryz.func78,Tryz.ntmps78
    go_wp2_with fail
    refine HK.out.mono ?_
    rintro e w1 ⟨rfl,rfl⟩
    go_wp2
    exact bodyPost_ret (v:=tokOut 2 s 0) (by simp[results,Tryz.results78,go_sem,tokOut]) rfl ⟨rfl,HB.out _⟩
  | false=>
    rw[hk]at HK
    clear hk
    go_enter Tryz.func78,Tryz.ntmps78
    go_wp2_with fail
    refine HK.out.mono ?_
    rintro e w1 ⟨rfl,rfl⟩
    go_wp2
    exact bodyPost_ret (v:=tokOut 1 s 0) (by simp[results,Tryz.results78,go_sem,tokOut]) rfl ⟨rfl,HB.out _⟩
def AtoiEnd (V:Nat)(w:World)(e:Ending)(w':World):Prop:=
 ∃x er,e= .returned (.tuple #[.int .i64 x,er])∧Below w.heap.size w w'∧((er= .nilIface∧x=(V:Int)∧V<9223372036854775808)∨(∃t v,er= .iface t v)∧1000000000000000000≤V)
theorem atoi_any (s:ByteArray)(w:World)(hs:s.size≤1000000)(hL:Laid w)(hD:allD s.data.toList)(h0:s.data.toList≠[]):Calls Tryz.prog 132 #[.string s] w (AtoiEnd (valD s.data.toList 0) w):=by
 rcases atoi_digits hD h0 with ⟨h,hv⟩ | ⟨h,hv⟩
 ·obtain⟨t,v,hr⟩:=hL.rng
  refine(Tryz.strconv_Atoi_range s (by omega) h _ w hr (.inr ⟨t,v,rfl⟩)).mono ?_
  rintro e w' ⟨N,rfl,_,_,hb⟩
  exact⟨_,_,rfl,hb,.inr ⟨⟨_,_,rfl⟩,hv⟩⟩
 ·refine(Tryz.strconv_Atoi_ok s (by omega) _ h w).mono ?_
  rintro e w' ⟨rfl,hw⟩
  refine⟨_,_,rfl, ?_,.inl ⟨rfl,rfl,hv⟩⟩
  rcases hw with rfl | ⟨t,rfl⟩
  ·exact Below.refl _ _
  ·exact Lib.bytesWorld_below _ _ _
theorem numBad_is {l:List UInt8}(hD:allD l)(gl:Bool):numBad l gl=(gl || decide (1073741824<valD l 0) || (decide (1<l.length) && decide (l.head? =some 48))):=by
 unfold numBad
 by_cases h:1<l.length∧l.head? =some 48
 ·rw[decide_eq_true h.1,decide_eq_true h.2];simp
 ·rw[bigD_val hD h]
  have e:(decide (1<l.length) && decide (l.head? =some 48))=false:=by
   rw[Bool.eq_false_iff];intro e
   simp only[Bool.and_eq_true,decide_eq_true_eq]at e
   exact h e
  rw[e];simp[Bool.or_comm]
theorem numtok_any (s:ByteArray)(gl:Bool)(w:World)(hs:s.size≤1000000)(hL:Laid w)(hD:allD s.data.toList)(h0:s.data.toList≠[]):Calls Tryz.prog 80 #[.string s,.bool gl] w fun e w'=>e= .returned (if numBad s.data.toList gl then tokOut 0 ⟨#[]⟩ 5 else tokOut 3 s 0)∧Below w.heap.size w w':=by
 have hsz:=size_l s
 have hA:Below w.heap.size w (w.alloc (.cells #[.int .i64 0,.int .i64 0,.string ⟨#[]⟩] 41)):=(Below.refl _ w).alloc (Nat.le_refl _) _
 have HAT:=Lib.hid (atoi_any s _ hs (hL.up hA) hD h0)
 have hne:=numBad_is hD gl
 obtain⟨c,r,hcr⟩:∃c r,s.data.toList=c :: r:=by
  cases hl:s.data.toList with
  | nil=>exact absurd hl h0
  | cons c r=>exact⟨c,r,rfl⟩
 have hpos:0<s.size:=by rw[←hsz,hcr];simp
 have hix:∀W,(Instr.index 9 (.string s) (.int .i64 0)).run Tryz.prog W= .ok (.int .u8 (c.toNat:Int)) W:=fun W=>by
  rw[run_index_string W _ s .i64 _ Tryz.underlying9,dif_pos ⟨by omega,by omega⟩]
  have e:s[(0:Int).toNat]'(by simpa using hpos)=c:=by
   rw[get_l]
   simp[hcr]
  rw[e]
 have hhd:decide (s.data.toList.head? =some 48)=((c.toNat:Int) == 48):=by
  rw[hcr,Bool.eq_iff_iff]
  simp only[List.head?_cons,Option.some.injEq,decide_eq_true_eq,beq_iff_eq]
  constructor
  ·rintro rfl;rfl
  ·intro h;exact UInt8.toNat_inj.1 (by show c.toNat=48;omega)
 have n1:=fun t v W=>Tryz.neIface t v W
 have n2:=fun W=>Tryz.neNil W
 rw[hhd,hsz]at hne
 have HB:Hid (∀W (_:Unit),Below (w.alloc (.cells #[.int .i64 0,.int .i64 0,.string ⟨#[]⟩] 41)).heap.size (w.alloc (.cells #[.int .i64 0,.int .i64 0,.string ⟨#[]⟩] 41)) W→Below w.heap.size w W):=fun W _ hb=>hA.trans (hb.mono hA.size)
 have hf0:w.heap.size<(w.alloc (.cells #[.int .i64 0,.int .i64 0,.string ⟨#[]⟩] 41)).heap.size:=by simp
 have hc0:=heap_alloc_new w (.cells #[.int .i64 0,.int .i64 0,.string ⟨#[]⟩] 41)
 have HNE:=Lib.hid hne
 have HCR:Hid True:=trivial
 clear hA hL hD h0 hne hhd hcr hsz
 generalize valD s.data.toList 0=V at*
 generalize numBad s.data.toList gl=nb at*
 go_enter Tryz.func80,Tryz.ntmps80
 go_wp2_with fail
 generalize hW1:w.alloc (.cells #[.int .i64 0,.int .i64 0,.string ⟨#[]⟩] 41)=W1 at*
 refine HAT.out.mono ?_
 rintro e w1 ⟨x,er,rfl,hb1,hx⟩
 have B1:=Lib.hid (HB.out w1 () hb1)
 have q:∀j,w1.cell? ⟨w.heap.size,j,none⟩=W1.cell? ⟨w.heap.size,j,none⟩:=fun j=>hb1.cell (p:=⟨w.heap.size,j,none⟩) hf0
 have q0:w1.cell? ⟨w.heap.size,0,none⟩=some (.int .i64 0):=by rw[q,cell_of_row _ _ _ _ _ _ hc0];rfl
 have q1:w1.cell? ⟨w.heap.size,1,none⟩=some (.int .i64 0):=by rw[q,cell_of_row _ _ _ _ _ _ hc0];rfl
 have q2:w1.cell? ⟨w.heap.size,2,none⟩=some (.string ⟨#[]⟩):=by rw[q,cell_of_row _ _ _ _ _ _ hc0];rfl
 have qf:∀j,w1.frozen? ⟨w.heap.size,j,none⟩=false:=fun j=>(hb1.frozen (p:=⟨w.heap.size,j,none⟩) hf0).trans (frozen_of_row _ _ _ _ _ hc0)
 have f0:=qf 0
 have f1:=qf 1
 have f2:=qf 2
 have HBS:Hid (∀a b c,Below w.heap.size w (((w1.setCell ⟨w.heap.size,0,none⟩ a).setCell ⟨w.heap.size,1,none⟩ b).setCell ⟨w.heap.size,2,none⟩ c)):=fun a b c=>((B1.out.setCell (p:=⟨w.heap.size,0,none⟩) (Nat.le_refl _) _).setCell (p:=⟨w.heap.size,1,none⟩) (Nat.le_refl _) _).setCell (p:=⟨w.heap.size,2,none⟩) (Nat.le_refl _) _
 clear hb1 HAT HB q qf hc0 hf0
 clear hW1
 rcases hx with ⟨rfl,rfl,hV⟩ | ⟨⟨t,v,rfl⟩,hV⟩
 ·have hVx:(V:Int)≤9223372036854775807:=by omega
  have e1:decide (1073741824<V)=decide ((1073741824:Int)<(V:Int)):=by rw[Bool.eq_iff_iff];simp only[decide_eq_true_eq];omega
  have e2:decide (1<s.size)=decide ((1:Int)<(s.size:Int)):=by rw[Bool.eq_iff_iff];simp only[decide_eq_true_eq];omega
  have h5:nb=(gl || decide ((1073741824:Int)<(V:Int)) || (decide ((1:Int)<(s.size:Int)) && ((c.toNat:Int) == 48))):=by rw[HNE.out,e1,e2]
  clear HNE e1 e2
  obtain⟨b2,h2⟩:∃b,decide ((1073741824:Int)<(V:Int))=b:=⟨_,rfl⟩
  obtain⟨b3,h3⟩:∃b,decide ((1:Int)<(s.size:Int))=b:=⟨_,rfl⟩
  obtain⟨b4,h4⟩:∃b,((c.toNat:Int) == 48)=b:=⟨_,rfl⟩
  rw[h2,h3,h4]at h5
  cases gl<;>cases b2<;>cases b3<;>cases b4
  all_goals
   simp only[Bool.or_true,Bool.true_or,Bool.false_or,Bool.or_false,Bool.and_true,Bool.true_and,Bool.false_and,Bool.and_false]at h5
   subst h5
   go_wp2
   first
    | exact bodyPost_ret (v:=tokOut 0 ⟨#[]⟩ 5) (by simp[results,Tryz.results80,go_sem,tokOut,q0,q1,q2,f0,f1,f2]) rfl ⟨rfl,HBS.out _ _ _⟩
    | exact bodyPost_ret (v:=tokOut 3 s 0) (by simp[results,Tryz.results80,go_sem,tokOut,q0,q1,q2,f0,f1,f2]) rfl ⟨rfl,HBS.out _ _ _⟩
 ·obtain rfl:nb=true:=by
   rw[HNE.out,decide_eq_true (show 1073741824<V by omega)];simp
  clear HNE hV
  cases gl
  all_goals
   go_wp2
   exact bodyPost_ret (v:=tokOut 0 ⟨#[]⟩ 5) (by simp[results,Tryz.results80,go_sem,tokOut,q0,q1,q2,f0,f1,f2]) rfl ⟨rfl,HBS.out _ _ _⟩
end
section
open Go.RowKit
structure PS where
 nx:Nat
 ne:Int
 er:Option (Int×Int)
section
variable (tk:List Tok) (en:Nat)
def ptx (s:PS)(k:Nat):ByteArray:=if s.er=none∧s.nx+k<tk.length then(tk.getD (s.nx+k) tok0).text else(⟨#[]⟩:ByteArray)
def pkd (s:PS):Int:=if s.er=none∧s.nx<tk.length then(tk.getD s.nx tok0).kind else 0
def pat (s:PS):Int:=if s.nx<tk.length then((tk.getD s.nx tok0).at':Int) else en
def pfail (c:Int)(s:PS):PS:=if s.er=none then⟨s.nx,s.ne,some (c,pat tk en s)⟩ else s
def pgo (s:PS):PS:=⟨s.nx+1,s.ne,s.er⟩
def pdn (s:PS):PS:=⟨s.nx,s.ne+1,s.er⟩
def pup (s:PS):PS:=⟨s.nx,s.ne - 1,s.er⟩
def pis (ws:List ByteArray)(s:PS):Bool:=decide (ptx tk s 0≠(⟨#[]⟩:ByteArray)) && hasW (ptx tk s 0) ws
def pmust (ws:List ByteArray)(s:PS):ByteArray×PS:=if pis tk ws s=true then(ptx tk s 0,pgo s) else((⟨#[]⟩:ByteArray),pfail tk en 11 s)
def pmay (ws:List ByteArray)(s:PS):ByteArray×PS:=if pis tk ws s=true then(ptx tk s 0,pgo s) else((⟨#[]⟩:ByteArray),s)
def pof (k:Int)(s:PS):ByteArray×PS:=if pkd tk s=k then(ptx tk s 0,pgo s) else((⟨#[]⟩:ByteArray),pfail tk en 11 s)
def pval (t:ByteArray):Int:=((valD t.data.toList 0:Nat):Int)
def pnum (s:PS):Int×PS:=(pval (pof tk en 3 s).1,(pof tk en 3 s).2)
def penter (s:PS):PS:=pdn (if 50≤s.ne then pfail tk en 4 s else s)
def pm1 (w:ByteArray)(s:PS):PS:=(pmust tk en [w] s).2
def pwithin {α:Type}(o c:ByteArray)(d:α)(f:PS→α×PS)(s:PS):α×PS:=
 let s2:=pm1 tk en o (if pis tk [o] s=true then penter tk en s else s)
 if s2.er=none then((f s2).1,pup (pm1 tk en c (f s2).2)) else(d,s2)
def pcom {α:Type}(f:PS→α×PS):Nat→List α→PS→List α×PS
 | 0,l,s=>(l,s)
 | k+1,l,s=>if pis tk [(⟨#[44]⟩:ByteArray)] s=true then pcom f k (l ++ [(f (pgo s)).1]) (f (pgo s)).2 else(l,s)
def prow {α:Type}(ends:List ByteArray)(f:PS→α×PS)(s:PS):List α×PS:=
 if pis tk ends s=true then([],s) else pcom tk f (tk.length+1) [(f s).1] (f s).2
def pnames (ends:List ByteArray)(s:PS):List ByteArray×PS:=prow tk ends (pof tk en 1) s
def pbin {α:Type}(w:ByteArray)(mk:α→α→α)(f:PS→α×PS):Nat→α→PS→α×PS
 | 0,a,s=>(a,s)
 | k+1,a,s=>if pis tk [w] s=true then pbin w mk f k (mk a (f (pgo s)).1) (f (pgo s)).2 else(a,s)
def psum (f:PS→ET×PS):Nat→ET→PS→ET×PS
 | 0,e,s=>(e,s)
 | k+1,e,s=>if pis tk [(⟨#[43]⟩:ByteArray),(⟨#[45]⟩:ByteArray)] s=true then psum f k (.mk (if ptx tk s 0=(⟨#[43]⟩:ByteArray) then 2 else 3) 0 (⟨#[]⟩:ByteArray) [e,(f (pgo s)).1]) (f (pgo s)).2 else(e,s)
def pexpr (f:PS→ET×PS)(s:PS):ET×PS:=psum tk f (tk.length+1) (f s).1 (f s).2
def pnumE (sg:Int)(s:PS):ET×PS:=(.mk 0 (sg*(pnum tk en s).1) (⟨#[]⟩:ByteArray) [],(pnum tk en s).2)
def pmulE (f:PS→ET×PS)(sg:Int)(s:PS):ET×PS:=
 let a:=pnum tk en (penter tk en s)
 let b:=f (pm1 tk en (⟨#[42]⟩:ByteArray) a.2)
 (.mk 4 (sg*a.1) (⟨#[]⟩:ByteArray) [b.1],pup b.2)
def ptimes (f:PS→ET×PS)(sg:Int)(s:PS):ET×PS:=if pkd tk s=3∧ptx tk s 1=(⟨#[42]⟩:ByteArray) then pmulE tk en f sg s else pnumE tk en sg s
def pvarE (s:PS):ET×PS:=(.mk 1 0 (pof tk en 1 s).1 [],(pof tk en 1 s).2)
def pprod:Nat→PS→ET×PS
 | 0,s=>(default,s)
 | n+1,s=>
   if pis tk [(⟨#[45]⟩:ByteArray)] s=true then ptimes tk en (pprod n) (-1) (pgo s)
   else if pkd tk s=3 then ptimes tk en (pprod n) 1 s
   else if pkd tk s=1 then pvarE tk en s
   else pwithin tk en (⟨#[40]⟩:ByteArray) (⟨#[41]⟩:ByteArray) default (pexpr tk (pprod n)) s
def pex (s:PS):ET×PS:=pexpr tk (pprod tk en 53) s
def pexprs (ends:List ByteArray)(s:PS):List ET×PS:=prow tk ends (pex tk en) s
def pcmpK (t:ByteArray):Int:=if t=(⟨#[61,61]⟩:ByteArray) then 2 else if t=(⟨#[33,61]⟩:ByteArray) then 3 else if t=(⟨#[60]⟩:ByteArray) then 4 else if t=(⟨#[60,61]⟩:ByteArray) then 5 else 0
def pcmp (s:PS):CT×PS:=
 let a:=pex tk en s
 let t:=pmust tk en [(⟨#[61,61]⟩:ByteArray),(⟨#[33,61]⟩:ByteArray),(⟨#[60]⟩:ByteArray),(⟨#[60,61]⟩:ByteArray)] a.2
 let b:=pex tk en t.2
 (.mk (pcmpK t.1) [a.1,b.1] [],b.2)
def pall (f:PS→CT×PS)(s:PS):CT×PS:=pbin tk (⟨#[38,38]⟩:ByteArray) (fun a b=> .mk 7 [] [a,b]) f (tk.length+1) (f s).1 (f s).2
def pcnd (f:PS→CT×PS)(s:PS):CT×PS:=pbin tk (⟨#[124,124]⟩:ByteArray) (fun a b=> .mk 8 [] [a,b]) (pall tk f) (tk.length+1) (pall tk f s).1 (pall tk f s).2
def pnot (f:PS→CT×PS)(s:PS):CT×PS:=
 let b:=f (pm1 tk en (⟨#[33]⟩:ByteArray) (penter tk en s))
 (.mk 6 [] [b.1],pup b.2)
def pone:Nat→PS→CT×PS
 | 0,s=>(default,s)
 | n+1,s=>
   if ptx tk s 0=(⟨#[33]⟩:ByteArray) then pnot tk en (pone n) s
   else if ptx tk s 0=(⟨#[91]⟩:ByteArray) then pwithin tk en (⟨#[91]⟩:ByteArray) (⟨#[93]⟩:ByteArray) default (pcnd tk (pone n)) s
   else if ptx tk s 0=(⟨#[116,114,117,101]⟩:ByteArray) then(.mk 0 [] [],pm1 tk en (⟨#[116,114,117,101]⟩:ByteArray) s)
   else if ptx tk s 0=(⟨#[102,97,108,115,101]⟩:ByteArray) then(.mk 1 [] [],pm1 tk en (⟨#[102,97,108,115,101]⟩:ByteArray) s)
   else pcmp tk en s
def pco (s:PS):CT×PS:=pcnd tk (pone tk en 53) s
def pshare (s:PS):(ET×ByteArray×Int)×PS:=
 let e:=pex tk en (pm1 tk en (⟨#[40]⟩:ByteArray) s)
 let f:=pof tk en 1 (pm1 tk en (⟨#[46]⟩:ByteArray) e.2)
 let n:=pnum tk en (pm1 tk en (⟨#[44]⟩:ByteArray) f.2)
 ((e.1,f.1,n.1),n.2)
def pacc (s:PS):AT×PS:=
 let x:=pshare tk en (pm1 tk en (⟨#[97,99,99]⟩:ByteArray) s)
 (.mk 2 default x.1.1 default x.1.2.1 x.1.2.2 [],pm1 tk en (⟨#[41]⟩:ByteArray) x.2)
def ppts (s:PS):AT×PS:=
 let x:=pshare tk en (pm1 tk en (⟨#[112,116,115]⟩:ByteArray) s)
 let v:=pex tk en (pm1 tk en (⟨#[44]⟩:ByteArray) x.2)
 (.mk 3 default x.1.1 v.1 x.1.2.1 x.1.2.2 [],pm1 tk en (⟨#[41]⟩:ByteArray) v.2)
def ppure (s:PS):AT×PS:=
 let x:=pwithin tk en (⟨#[91]⟩:ByteArray) (⟨#[93]⟩:ByteArray) default (pco tk en) s
 (.mk 1 x.1 default default (⟨#[]⟩:ByteArray) 0 [],x.2)
def passn (f:PS→AT×PS)(s:PS):AT×PS:=pbin tk (⟨#[38]⟩:ByteArray) (fun a b=> .mk 4 default default default (⟨#[]⟩:ByteArray) 0 [a,b]) f (tk.length+1) (f s).1 (f s).2
def pbraced (f:PS→AT×PS)(s:PS):AT×PS:=pwithin tk en (⟨#[123]⟩:ByteArray) (⟨#[125]⟩:ByteArray) default (passn tk f) s
def pifA (f:PS→AT×PS)(s:PS):AT×PS:=
 let c:=pco tk en (pm1 tk en (⟨#[105,102]⟩:ByteArray) s)
 let a:=pbraced tk en f c.2
 let b:=pbraced tk en f (pm1 tk en (⟨#[101,108,115,101]⟩:ByteArray) a.2)
 (.mk 5 c.1 default default (⟨#[]⟩:ByteArray) 0 [a.1,b.1],b.2)
def pitem:Nat→PS→AT×PS
 | 0,s=>(default,s)
 | n+1,s=>
   if ptx tk s 0=(⟨#[91]⟩:ByteArray) then ppure tk en s
   else if ptx tk s 0=(⟨#[97,99,99]⟩:ByteArray) then pacc tk en s
   else if ptx tk s 0=(⟨#[112,116,115]⟩:ByteArray) then ppts tk en s
   else if ptx tk s 0=(⟨#[105,102]⟩:ByteArray) then pifA tk en (pitem n) s
   else if ptx tk s 0=(⟨#[40]⟩:ByteArray) then pwithin tk en (⟨#[40]⟩:ByteArray) (⟨#[41]⟩:ByteArray) default (passn tk (pitem n)) s
   else(default,pm1 tk en (⟨#[101,109,112]⟩:ByteArray) s)
def pas (s:PS):AT×PS:=passn tk (pitem tk en 53) s
def sp0:SP:=⟨0,(⟨#[]⟩:ByteArray),(⟨#[]⟩:ByteArray),(⟨#[]⟩:ByteArray),default,default,default,default,[],[],[]⟩
def pcell (p:SP)(s:PS):SP×PS:=
 let e:=pex tk en s
 let f:=pof tk en 1 (pm1 tk en (⟨#[46]⟩:ByteArray) e.2)
 ({ p with e:=e.1,field:=f.1 },f.2)
def pcall (p:SP)(s:PS):SP×PS:=
 let c:=pof tk en 1 (pm1 tk en (⟨#[99,97,108,108]⟩:ByteArray) s)
 let a:=pexprs tk en [(⟨#[59]⟩:ByteArray)] (pm1 tk en (⟨#[40]⟩:ByteArray) c.2)
 let g:=pexprs tk en [(⟨#[41]⟩:ByteArray)] (pm1 tk en (⟨#[59]⟩:ByteArray) a.2)
 ({ p with kind:=9,callee:=c.1,args:=a.1,ghosts:=g.1 },pm1 tk en (⟨#[41]⟩:ByteArray) g.2)
def pwhat (p:SP)(s:PS):SP×PS:=
 if ptx tk s 0=(⟨#[103,101,116]⟩:ByteArray) then pcell tk en { p with kind:=2 } (pm1 tk en (⟨#[103,101,116]⟩:ByteArray) s)
 else if ptx tk s 0=(⟨#[110,101,119]⟩:ByteArray) then
  let f:=pnames tk en [] (pm1 tk en (⟨#[40]⟩:ByteArray) (pm1 tk en (⟨#[110,101,119]⟩:ByteArray) s))
  ({ p with kind:=4,fields:=f.1 },pm1 tk en (⟨#[41]⟩:ByteArray) f.2)
 else if ptx tk s 0=(⟨#[99,97,108,108]⟩:ByteArray) then pcall tk en p s
 else({ p with kind:=1,e:=(pex tk en s).1 },(pex tk en s).2)
def psimple (s:PS):SP×PS:=
 if ptx tk s 0=(⟨#[112,117,116]⟩:ByteArray) then
  let c:=pcell tk en { sp0 with kind:=3 } (pm1 tk en (⟨#[112,117,116]⟩:ByteArray) s)
  let v:=pex tk en (pm1 tk en (⟨#[58,61]⟩:ByteArray) c.2)
  ({ c.1 with v:=v.1 },v.2)
 else if ptx tk s 0=(⟨#[102,114,101,101]⟩:ByteArray) then pcell tk en { sp0 with kind:=5 } (pm1 tk en (⟨#[102,114,101,101]⟩:ByteArray) s)
 else if ptx tk s 0=(⟨#[97,115,115,101,114,116]⟩:ByteArray) then
  let c:=pco tk en (pm1 tk en (⟨#[97,115,115,101,114,116]⟩:ByteArray) s)
  ({ sp0 with kind:=8,c:=c.1 },c.2)
 else if ptx tk s 0=(⟨#[99,97,108,108]⟩:ByteArray) then pcall tk en sp0 s
 else if ptx tk s 0=(⟨#[115,107,105,112]⟩:ByteArray) then(sp0,pm1 tk en (⟨#[115,107,105,112]⟩:ByteArray) s)
 else
  let n:=pof tk en 1 s
  pwhat tk en { sp0 with name:=n.1 } (pm1 tk en (⟨#[58,61]⟩:ByteArray) n.2)
def pstmts (f:PS→ST×PS):Nat→List ST→PS→List ST×PS
 | 0,l,s=>(l,s)
 | k+1,l,s=>if s.er=none∧pis tk [(⟨#[125]⟩:ByteArray)] s=false then pstmts f k (l ++ [(f s).1]) (f s).2 else(l,s)
def pblock (f:PS→ST×PS)(s:PS):List ST×PS:=pwithin tk en (⟨#[123]⟩:ByteArray) (⟨#[125]⟩:ByteArray) [] (pstmts tk f (tk.length+2) []) s
def pbranch (f:PS→ST×PS)(s:PS):ST×PS:=
 let c:=pco tk en (pm1 tk en (⟨#[105,102]⟩:ByteArray) s)
 let a:=pblock tk en f c.2
 let b:=pblock tk en f (pm1 tk en (⟨#[101,108,115,101]⟩:ByteArray) a.2)
 (.mk { sp0 with kind:=6,c:=c.1 } a.1 b.1,b.2)
def ploop (f:PS→ST×PS)(s:PS):ST×PS:=
 let c:=pco tk en (pm1 tk en (⟨#[119,104,105,108,101]⟩:ByteArray) s)
 let a:=pas tk en (pm1 tk en (⟨#[105,110,118,97,114,105,97,110,116]⟩:ByteArray) c.2)
 let b:=pblock tk en f a.2
 (.mk { sp0 with kind:=7,c:=c.1,a:=a.1 } b.1 [],b.2)
def pstmt:Nat→PS→ST×PS
 | 0,s=>(default,s)
 | n+1,s=>
   if ptx tk s 0=(⟨#[105,102]⟩:ByteArray) then pbranch tk en (pstmt n) s
   else if ptx tk s 0=(⟨#[119,104,105,108,101]⟩:ByteArray) then ploop tk en (pstmt n) s
   else(.mk (psimple tk en s).1 [] [],pm1 tk en (⟨#[59]⟩:ByteArray) (psimple tk en s).2)
def pbl (s:PS):List ST×PS:=pblock tk en (pstmt tk en 53) s
def pproc (s:PS):QT×PS:=
 let n:=pof tk en 1 (pm1 tk en (⟨#[112,114,111,99]⟩:ByteArray) s)
 let a:=pnames tk en [(⟨#[59]⟩:ByteArray)] (pm1 tk en (⟨#[40]⟩:ByteArray) n.2)
 let g:=pnames tk en [(⟨#[41]⟩:ByteArray)] (pm1 tk en (⟨#[59]⟩:ByteArray) a.2)
 let p:=pas tk en (pm1 tk en (⟨#[114,101,113,117,105,114,101,115]⟩:ByteArray) (pm1 tk en (⟨#[41]⟩:ByteArray) g.2))
 let q:=pas tk en (pm1 tk en (⟨#[101,110,115,117,114,101,115]⟩:ByteArray) p.2)
 let b:=pbl tk en q.2
 (⟨n.1,a.1,g.1,p.1,q.1,b.1⟩,b.2)
def pprocs:Nat→List QT→PS→List QT×PS
 | 0,l,s=>(l,s)
 | k+1,l,s=>if s.nx<tk.length∧s.er=none then pprocs k (l ++ [(pproc tk en s).1]) (pproc tk en s).2 else(l,s)
end
def ps0:PS:=⟨0,0,none⟩
def pprog (tk:List Tok)(en:Nat):Int×Int×List QT:=
 let r:=pprocs tk en (tk.length+1) [] ps0
 match r.2.er with
 | none=>(0, -1,r.1)
 | some (c,a)=>(c,a,[])
def pparse (s:ByteArray):Int×Int×List QT:=if(resOf s).1=0 then pprog (resOf s).2.2 s.size else((resOf s).1,(resOf s).2.1,[])
end
section
open Go.RowKit
inductive TokIs (l:List UInt8):Int→ByteArray→Int→Prop
 | bad {c:Int} {t:ByteArray}:stp l= .bad c→c≠0→TokIs l 0 t c
 | tok {k:Int} {n:Nat} {t:ByteArray}:stp l= .tok k n→1≤n→n≤l.length→t.data.toList=l.take n→TokIs l k t 0
def TokEnd (s:ByteArray)(w:World)(e:Ending)(w':World):Prop:=
 ∃k t c,e= .returned (.tuple #[.agg #[.int .i64 k,.int .i64 0,.string t],.int .i64 c])∧TokIs s.data.toList k t c∧Below w.heap.size w w'
structure ResAt (g:Nat)(W:World):Prop where
 q0:∃v,W.cell? ⟨g,0,none⟩=some v
 q1:∃v,W.cell? ⟨g,1,none⟩=some v
 q2:∃v,W.cell? ⟨g,2,none⟩=some v
 f0:W.frozen? ⟨g,0,none⟩=false
 f1:W.frozen? ⟨g,1,none⟩=false
 f2:W.frozen? ⟨g,2,none⟩=false
theorem resAt_new (w:World)(a b c:Value)(t:TypeId)(W:World)(h:Below (w.alloc (.cells #[a,b,c] t)).heap.size (w.alloc (.cells #[a,b,c] t)) W):ResAt w.heap.size W:=by
 have hn:=heap_alloc_new w (.cells #[a,b,c] t)
 have hl:w.heap.size<(w.alloc (.cells #[a,b,c] t)).heap.size:=by simp
 have q:∀j,W.cell? ⟨w.heap.size,j,none⟩= #[a,b,c][j]? :=fun j=>(h.cell (p:=⟨w.heap.size,j,none⟩) hl).trans (cell_of_row _ _ _ _ _ _ hn)
 have f:∀j,W.frozen? ⟨w.heap.size,j,none⟩=false:=fun j=>(h.frozen (p:=⟨w.heap.size,j,none⟩) hl).trans (frozen_of_row _ _ _ _ _ hn)
 exact⟨⟨a,by rw[q];rfl⟩,⟨b,by rw[q];rfl⟩,⟨c,by rw[q];rfl⟩,f 0,f 1,f 2⟩
theorem take_size {s:ByteArray}{n:Nat}(h:n≤s.size):(s.extract 0 n).size=n∧(s.extract 0 n).data.toList=s.data.toList.take n:=by
 have e:(s.extract 0 n).data.toList=s.data.toList.take n:=by rw[Lib.extract_data];simp
 refine⟨?_,e⟩
 rw[←size_l,e,List.length_take,size_l];omega
theorem glue_is {l:List UInt8}:glueB (l.drop (runN isDig l))=decide (0<runN isIn (l.drop (runN isDig l))):=by
 by_cases h:runN isDig l<l.length
 ·have hd:=runN_at h
  rw[cons_of h]
  rw[runN_cons]
  simp only[glueB]
  generalize l[runN isDig l]=c at hd
  have:isIn c=isLet c:=by unfold isIn;rw[hd,Bool.or_false]
  rw[this]
  cases isLet c<;>simp
 ·rw[List.drop_eq_nil_of_le (by omega)];rfl
theorem tokIs_name {s:ByteArray}(hs:NoSkip s.data.toList)(h:0<wordN s.data.toList):∀t:ByteArray,t.size=wordN s.data.toList→t.data.toList=s.data.toList.take (wordN s.data.toList)→
 ∃k t2 c,(if 32<t.size then tokOut 0 ⟨#[]⟩ 2 else tokOut (if keyB t.data.toList then 2 else 1) t 0)=tokOut k t2 c∧TokIs s.data.toList k t2 c:=fun t h1 h2=>by
 have e:=stp_word hs h
 have hl:=wordN_le s.data.toList
 rw[h1,h2]
 by_cases hb:32<wordN s.data.toList
 ·rw[if_pos hb]at e⊢
  exact⟨_,_,_,rfl,.bad e (by decide)⟩
 ·rw[if_neg hb]at e⊢
  exact⟨_,_,_,rfl,.tok e h hl h2⟩
theorem tokIs_num {s:ByteArray}(hs:NoSkip s.data.toList)(h0:wordN s.data.toList=0)(h:0<runN isDig s.data.toList)(gl:Bool)(hg:gl=decide (0<runN isIn (s.data.toList.drop (runN isDig s.data.toList)))):∀t:ByteArray,t.data.toList=s.data.toList.take (runN isDig s.data.toList)→
 ∃k t2 c,(if numBad t.data.toList gl then tokOut 0 ⟨#[]⟩ 5 else tokOut 3 t 0)=tokOut k t2 c∧TokIs s.data.toList k t2 c:=fun t h2=>by
 have e:=stp_num hs h0 h
 have hl:=runN_le isDig s.data.toList
 unfold numS at e
 rw[glue_is,←hg]at e
 rw[h2]
 cases hb:numBad (s.data.toList.take (runN isDig s.data.toList)) gl with
 | true=>
   rw[hb,if_pos rfl]at e
   exact⟨_,_,_,rfl,.bad e (by decide)⟩
 | false=>
   rw[hb,if_neg (by decide)]at e
   exact⟨_,_,_,rfl,.tok e h hl h2⟩
theorem ops_at {i:Nat}(h:i<21):∃h2:i<opsL.length,opsL.getD i []=opsL[i]:=⟨h,by rw[List.getD_eq_getElem?_getD,List.getElem?_eq_getElem (show i<opsL.length from h)];rfl⟩
theorem opA_size (i:Nat):(opA i).size=(opsL.getD i []).length:=by rw[←size_l,opA_data]
theorem tokIs_op {s:ByteArray}(hne:s.data.toList≠[])(hs:NoSkip s.data.toList)(h0:wordN s.data.toList=0)(h1:runN isDig s.data.toList=0)(i:Nat)(hi:i<21)(hp:s.data.toList.take (opsL.getD i []).length=opsL.getD i [])(hno:∀j,j<i→s.data.toList.take (opsL.getD j []).length≠opsL.getD j []):TokIs s.data.toList 4 (opA i) 0:=by
 obtain⟨hi2,e⟩:=ops_at hi
 rw[e]at hp
 obtain⟨a,b⟩:=opN_hit hi2 hp (fun j hj hji e2=>by
  obtain⟨_,e3⟩:=ops_at (i:=j) (by omega)
  exact hno j hji (by rw[e3];exact e2))
 have e4:=stp_op hne hs h0 h1
 have:=(ops_1_2 hi2).1
 rw[if_neg (by omega)]at e4
 exact .tok e4 (by omega) (opN_len _) (by rw[opA_data,e,b])
theorem tokIs_none {s:ByteArray}(hne:s.data.toList≠[])(hs:NoSkip s.data.toList)(h0:wordN s.data.toList=0)(h1:runN isDig s.data.toList=0)(hno:∀j,j<21→s.data.toList.take (opsL.getD j []).length≠opsL.getD j [])(t:ByteArray):TokIs s.data.toList 0 t 10:=by
 have e4:=stp_op hne hs h0 h1
 rw[if_pos (opN_miss (fun j hj e=>hno j hj (by
  obtain⟨_,e3⟩:=ops_at (i:=j) hj
  rw[e3];exact e)))]at e4
 exact .bad e4 (by decide)
theorem opA_cmp (s:ByteArray)(i:Nat)(h:(opA i).size≤s.size):((s.extract 0 (opA i).size).toList == (opA i).toList)=decide (s.data.toList.take (opsL.getD i []).length=opsL.getD i []):=by
 rw[Bool.eq_iff_iff]
 simp only[Lib.toList_data,beq_iff_eq,decide_eq_true_eq]
 rw[(take_size h).2,opA_data,opA_size]
end
section
open Go.RowKit
theorem token_any (s:ByteArray)(w:World)(hs:s.size≤1000000)(hL:Laid w)(hne:0<s.size)(hsk:NoSkip s.data.toList):Calls Tryz.prog 34 #[.string s] w (TokEnd s w):=by
 have hsz:=size_l s
 have hA:Below w.heap.size w (w.alloc (.cells #[.int .i64 0,.int .i64 0,.string ⟨#[]⟩] 41)):=(Below.refl _ w).alloc (Nat.le_refl _) _
 have HR:=Lib.hid (fun W h=>resAt_new w (.int .i64 0) (.int .i64 0) (.string ⟨#[]⟩) 41 W h)
 have HL1:=Lib.hid (hL.up hA)
 have HA:=Lib.hid hA
 have HWD:=Lib.hid (fun W=>word_any s W)
 have HBS:Hid (∀W,Below w.heap.size w W→∀a b c,Below w.heap.size w (((W.setCell ⟨w.heap.size,0,none⟩ a).setCell ⟨w.heap.size,1,none⟩ b).setCell ⟨w.heap.size,2,none⟩ c)):=fun W h a b c=>((h.setCell (p:=⟨w.heap.size,0,none⟩) (Nat.le_refl _) _).setCell (p:=⟨w.heap.size,1,none⟩) (Nat.le_refl _) _).setCell (p:=⟨w.heap.size,2,none⟩) (Nat.le_refl _) _
 have hnl:s.data.toList≠[]:=fun e=>by rw[e]at hsz;simp at hsz;omega
 have hl:=wordN_le s.data.toList
 rw[hsz]at hl
 obtain⟨et,ev,h4⟩:=hL.rng
 have HKP:=Lib.hid (fun W (hb:Below w.heap.size w W)=>(hb.cell (p:=⟨5,0,none⟩) hL.pos).trans h4)
 clear hL hA h4
 by_cases hw:0<wordN s.data.toList
 ·obtain⟨t1,t2⟩:=take_size hl
  have HNT:Hid (∀W,Laid W→Calls Tryz.prog 78 #[.string (s.extract 0 (wordN s.data.toList))] W (TokEnd s W)):=fun W hW=>by
   refine(nametok_any _ W (by omega) hW).mono ?_
   rintro e w' ⟨rfl,hb⟩
   obtain⟨k,t,c,e1,h1⟩:=tokIs_name hsk hw _ t1 t2
   exact⟨k,t,c,by rw[e1];rfl,h1,hb⟩
  have hwi:(0:Int)<(wordN s.data.toList:Int):=by omega
  have hwl:(wordN s.data.toList:Int)≤(s.size:Int):=by omega
  clear hsz hnl hsk t1 t2 hw hl
  generalize wordN s.data.toList=N at*
  go_enter Tryz.func34,Tryz.ntmps34
  go_wp2_with fail
  generalize w.alloc (.cells #[.int .i64 0,.int .i64 0,.string ⟨#[]⟩] 41)=W1 at*
  refine(HWD.out _).mono ?_
  rintro e w1 ⟨rfl,hb1⟩
  have B1:=Lib.hid hb1
  clear hb1 HWD
  go_wp2_with fail
  refine(HNT.out _ (HL1.out.up B1.out)).mono ?_
  rintro e w2 ⟨k,t,c,rfl,ht,hb2⟩
  have B2:=Lib.hid (B1.out.trans (hb2.mono B1.out.size))
  have HT:=Lib.hid ht
  obtain⟨⟨x0,q0⟩,⟨x1,q1⟩,⟨x2,q2⟩,f0,f1,f2⟩:=HR.out w2 B2.out
  have HE:=Lib.hid (HBS.out w2 (HA.out.trans (B2.out.mono HA.out.size)))
  clear hb2 ht HNT HR HBS
  go_wp2
  exact bodyPost_ret (v:=tokOut k t c) (by simp[results,Tryz.results34,go_sem,tokOut,q0,q1,q2,f0,f1,f2]) rfl ⟨k,t,c,rfl,HT.out,HE.out _ _ _⟩
 ·have hw0:wordN s.data.toList=0:=by omega
  rw[hw0]at HWD
  have HDG:=Lib.hid (fun W=>rdigit_run s W)
  have hld:=runN_le isDig s.data.toList
  rw[hsz]at hld
  by_cases hd:0<runN isDig s.data.toList
  ·obtain⟨t1,t2⟩:=take_size hld
   have hgl:=tokIs_num hsk hw0 hd
   have HNM:Hid (∀gl,gl=decide (0<runN isIn (s.data.toList.drop (runN isDig s.data.toList)))→∀W,Laid W→Calls Tryz.prog 80 #[.string (s.extract 0 (runN isDig s.data.toList)),.bool gl] W (TokEnd s W)):=fun gl hg W hW=>by
    refine(numtok_any _ gl W (by omega) hW (by rw[t2];exact allD_take _) (by rw[t2];intro e;have:=congrArg List.length e;rw[List.length_take,List.length_nil]at this;omega)).mono ?_
    rintro e w' ⟨rfl,hb⟩
    obtain⟨k,t,c,e1,h1⟩:=hgl gl hg _ t2
    exact⟨k,t,c,by rw[e1];rfl,h1,hb⟩
   have HRI:=Lib.hid (fun W=>rinner_run (s.extract (runN isDig s.data.toList) s.size) W)
   simp only[Lib.extract_to_end]at HRI
   have hdi:(0:Int)<(runN isDig s.data.toList:Int):=by omega
   have hdl:(runN isDig s.data.toList:Int)≤(s.size:Int):=by omega
   clear hsz hnl hsk t1 t2 hw hl hw0 hd hgl hld
   generalize runN isDig s.data.toList=D at*
   generalize runN isIn (s.data.toList.drop D)=R at*
   obtain⟨gl,hg⟩:∃gl,gl=decide (0<R):=⟨_,rfl⟩
   have HN2:=Lib.hid (HNM.out gl hg)
   have hg2:decide ((0:Int)<(R:Int))=gl:=by rw[hg,Bool.eq_iff_iff];simp only[decide_eq_true_eq];omega
   have hg3:decide (0<R)=gl:=hg.symm
   clear HNM hg
   cases gl
   all_goals
    go_enter Tryz.func34,Tryz.ntmps34
    go_wp2_with fail
    generalize w.alloc (.cells #[.int .i64 0,.int .i64 0,.string ⟨#[]⟩] 41)=W1 at*
    refine(HWD.out _).mono ?_
    rintro e w1 ⟨rfl,hb1⟩
    have B1:=Lib.hid hb1
    clear hb1 HWD
    go_wp2_with fail
    refine(HDG.out _).mono ?_
    rintro e w2 ⟨rfl,hb2⟩
    have B2:=Lib.hid (B1.out.trans (hb2.mono B1.out.size))
    clear hb2 HDG
    go_wp2_with fail
    have B2d:=Lib.hid B2.out.drew
    clear B2
    go_region_held3 (fun W=>W.cell? ⟨5,0,none⟩=some (.iface et ev))
     (first
       | exact HKP.out _ (HE.out _ _ _)
       | exact HKP.out _ (HA.out.trans (B4.out.mono HA.out.size))
       | exact HKP.out _ (HA.out.trans (B3.out.mono HA.out.size))
       | exact HKP.out _ (HA.out.trans (B2d.out.mono HA.out.size))
       | go_keep)
     (first
       | (go_at_call 80;refine(HN2.out _ (HL1.out.up B3.out)).mono ?_;rintro e w4 ⟨k,t,c,rfl,ht,hb4⟩;have B4:=Lib.hid (B3.out.trans (hb4.mono B3.out.size));have HT:=Lib.hid ht;obtain⟨⟨x0,q0⟩,⟨x1,q1⟩,⟨x2,q2⟩,f0,f1,f2⟩:=HR.out w4 B4.out;have HE:=Lib.hid (HBS.out w4 (HA.out.trans (B4.out.mono HA.out.size)));clear hb4 ht)
       | (go_at_call 74;refine(HRI.out _).mono ?_;rintro e w3 ⟨rfl,hb3⟩;have B3:=Lib.hid (B2d.out.trans (hb3.mono B2d.out.size));clear hb3))
    all_goals
     go_wp2
     exact bodyPost_ret (v:=tokOut k t c) (by simp[results,Tryz.results34,go_sem,tokOut,q0,q1,q2,f0,f1,f2]) rfl ⟨k,t,c,rfl,HT.out,HE.out _ _ _⟩
  ·have hd0:runN isDig s.data.toList=0:=by omega
   rw[hd0]at HDG
   have HOP:=Lib.hid (fun i hi=>tokIs_op hnl hsk hw0 hd0 i hi)
   have HNO:=Lib.hid (tokIs_none hnl hsk hw0 hd0)
   have hk':∀W,Laid W→∀j v,opsV[j]? =some v→W.cell? ((⟨0,0,none⟩:Addr).add j)=some v:=fun W hW j v hv=>by
    rw[show(⟨0,0,none⟩:Addr).add j=⟨0,j,none⟩ by unfold Addr.add;split<;>simp_all]
    exact hW.ops j v hv
   have HK:=Lib.hid hk'
   have HX:Hid (∀(i:Nat) W,i<21→(Instr.index 128 (.agg opsV.toArray) (.int .i64 i)).run Tryz.prog W= .ok (.string (opA i)) W):=fun i W h=>
    run_index_list W _ 9 21 opsV i _ Tryz.underlying128 h (opsV_at h) Tryz.underlying9 (by kernel_rfl)
   have HL:Hid (opsV.length=21):=rfl
   have HC:=Lib.hid (fun i=>opA_cmp s i)
   have HZ:Hid (∀i,s.data.toList.take (opsL.getD i []).length=opsL.getD i []→(opA i).size≤s.size):=fun i e=>by
    have:=congrArg List.length e
    rw[List.length_take,hsz]at this
    rw[opA_size];omega
   clear hsz hnl hsk hw hl hw0 hd hd0 hld hk'
   generalize opsV=kv at*
   go_enter Tryz.func34,Tryz.ntmps34
   go_wp2_with fail
   generalize w.alloc (.cells #[.int .i64 0,.int .i64 0,.string ⟨#[]⟩] 41)=W1 at*
   refine(HWD.out _).mono ?_
   rintro e w1 ⟨rfl,hb1⟩
   have B1:=Lib.hid hb1
   clear hb1 HWD
   go_wp2_with fail
   refine(HDG.out _).mono ?_
   rintro e w2 ⟨rfl,hb2⟩
   have B2:=Lib.hid (B1.out.trans (hb2.mono B1.out.size))
   clear hb2 HDG
   obtain⟨⟨x0,q0⟩,⟨x1,q1⟩,⟨x2,q2⟩,f0,f1,f2⟩:=HR.out w2 B2.out
   have HE:=Lib.hid (HBS.out w2 (HA.out.trans (B2.out.mono HA.out.size)))
   have HK2:=Lib.hid (HK.out w2 (HL1.out.up B2.out))
   clear HK HBS HR B1 HL1
   go_wp2_with (refine wpList_load_list rfl 128 _ rfl ⟨0,0,none⟩ rfl kv _ HK2.out Tryz.underlying128 rfl (by rw[HL.out];kernel_rfl) ?_)
   go_loop [34] (fun i=>∃j:Nat,j≤21∧i= .int .i64 j∧Hid (∀q,q<j→s.data.toList.take (opsL.getD q []).length≠opsL.getD q [])) (fun i=>21 - (intOf i).toNat)
   case atStart=>exact⟨0,Nat.zero_le _,rfl,fun q h=>absurd h (Nat.not_lt_zero _)⟩
   case round=>
    obtain⟨j,hj,rfl,hno⟩:=hrel
    by_cases hlt:j<21
    ·have hlti:(j:Int)<21:=by omega
     have hx:∀W,(Instr.index 128 (.agg kv.toArray) (.int .i64 j)).run Tryz.prog W= .ok (.string (opA j)) W:=fun W=>HX.out j W hlt
     by_cases hq:s.data.toList.take (opsL.getD j []).length=opsL.getD j []
     ·have hz:=HZ.out j hq
      have he:=HC.out j hz
      rw[decide_eq_true hq]at he
      have HT:=Lib.hid (HOP.out j hlt hq hno.out)
      have hzi:((opA j).size:Int)≤(s.size:Int):=by omega
      clear hq
      generalize opA j=o at*
      go_wp2
      exact bodyPost_ret (v:=tokOut 4 o 0) (by simp[results,Tryz.results34,go_sem,tokOut,q0,q1,q2,f0,f1,f2]) rfl ⟨4,o,0,rfl,HT.out,HE.out _ _ _⟩
     ·have hno2:Hid (∀q,q<j+1→s.data.toList.take (opsL.getD q []).length≠opsL.getD q []):=fun q h=>by
       by_cases e:q=j
       ·rw[e];exact hq
       ·exact hno.out q (by omega)
      by_cases hz:(opA j).size≤s.size
      ·have he:=HC.out j hz
       rw[decide_eq_false hq]at he
       have hzi:((opA j).size:Int)≤(s.size:Int):=by omega
       clear hq
       generalize opA j=o at*
       go_wp2
       go_round
       case rel=>exact⟨j+1,by omega,by go_num,hno2⟩
       case measure=>simp[intOf];omega
      ·have hzi:¬((opA j).size:Int)≤(s.size:Int):=by omega
       clear hq
       generalize opA j=o at*
       go_wp2
       go_round
       case rel=>exact⟨j+1,by omega,by go_num,hno2⟩
       case measure=>simp[intOf];omega
    ·obtain rfl:j=21:=by omega
     have HT:=Lib.hid (HNO.out (fun i h=>hno.out i h) ⟨#[]⟩)
     go_wp2
     exact bodyPost_ret (v:=tokOut 0 ⟨#[]⟩ 10) (by simp[results,Tryz.results34,go_sem,tokOut,q0,q1,q2,f0,f1,f2]) rfl ⟨0,⟨#[]⟩,10,rfl,HT.out,HE.out _ _ _⟩
end
end Go.Proofs.YtcinokljkieijaaGreatDoor
