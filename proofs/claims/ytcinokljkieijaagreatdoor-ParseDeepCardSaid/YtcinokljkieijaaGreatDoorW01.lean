/- Parts of a proof. -/
import Derived.WalkKit
import Derived.Below
import Derived.Lib.Hide
import Derived.LaidEql
import Derived.Test.YtcinokljkieijaaGreatDoorChecked
import Derived.Test.YtcinokljkieijaaGreatDoorQ01
import Derived.Lib.AtoiAll
import Derived.Laws.RangeAny
import GoSem.Op.String
import Derived.Test.YtcinokljkieijaaGreatDoorQ03
import Derived.Test.YtcinokljkieijaaGreatDoorQ02
import Derived.Lib.Strings
import Derived.Test.YtcinokljkieijaaGreatDoorQ05
import Derived.Lib.QuietBelow
import Derived.Test.YtcinokljkieijaaGreatDoorQ04
import Derived.Test.YtcinokljkieijaaGreatDoorQ06
import Derived.Test.YtcinokljkieijaaGreatDoorQ07
set_option linter.unusedVariables false
set_option linter.unusedSimpArgs false
set_option maxHeartbeats 60000000
set_option maxRecDepth 100000
namespace Go.Proofs.YtcinokljkieijaaGreatDoor
section
open Go.RowKit
section
variable {P:Program} (w:World)
end
theorem code_nil (w:World):Calls Tryz.prog 20 #[.nilIface] w fun e w'=>e= .returned (.int .i64 0)∧w=w':=by
 go_enter Tryz.func20,Tryz.ntmps20
 go_wp2
 go_ret
 exact⟨rfl,rfl⟩
theorem code_k (k:Int)(w:World)(h1:1≤k)(h2:k≤16):Calls Tryz.prog 20 #[.iface 50 (.int .i64 k)] w fun e w'=>e= .returned (.int .i64 k)∧w=w':=by
 have heq:=fun(j:Int) W=>Tryz.eqCode k j W
 go_enter Tryz.func20,Tryz.ntmps20
 go_wp2
 go_loop [3] (fun c=>∃j:Int,1≤j∧j≤k∧c= .int .i64 j) (fun c=>(k - intOf c).toNat)
 case atStart=>exact⟨1,by omega,h1,rfl⟩
 case round=>
  obtain⟨j,hj1,hj2,rfl⟩:=hrel
  by_cases e:j=k
  ·subst e
   have hb:(j == j)=true:=by simp
   go_wp2
   go_ret
   exact⟨rfl,rfl⟩
  ·have hb:(k == j)=false:=by simp;omega
   go_wp2
   go_round
   case rel=>exact⟨j+1,by omega,by omega,rfl⟩
   case measure=>simp[intOf];omega
theorem codeV_zero:codeV 0= .nilIface:=rfl
theorem ErrIs.below {B:Nat}{x at':Int}{er:Value}{w w':World}(h:ErrIs B x at' er w)(hb:Below w.heap.size w w'):ErrIs B x at' er w':=
 ⟨h.1,fun h0=>by
   obtain⟨g,e1,e2,e3,e4,e5⟩:=h.2 h0
   exact⟨g,e1,e2,Nat.lt_of_lt_of_le e3 hb.size,(hb.cell (p:=⟨g,0,none⟩) e3).trans e4,(hb.cell (p:=⟨g,1,none⟩) e3).trans e5⟩⟩
end
section
def nameAt (k:Nat)(c:UInt8):Bool:=isLet c || (decide (0<k) && isDig c)
theorem wordN_lt {l:List UInt8}{k:Nat}(h:k<wordN l):∃hk:k<l.length,nameAt k l[k]=true:=by
 cases l with
 | nil=>rw[wordN_nil]at h;omega
 | cons c l=>
   rw[wordN_cons]at h
   split at h
   ·next hc=>
    cases k with
    | zero=>exact⟨by simp,by simp[nameAt,hc]⟩
    | succ k=>
      obtain⟨h1,h2⟩:=runN_lt (p:=isIn) (l:=l) (k:=k) (by omega)
      exact⟨by simp;omega,by simpa [nameAt,isIn]using h2⟩
   ·omega
theorem wordN_at {l:List UInt8}(h:wordN l<l.length):nameAt (wordN l) (l[wordN l])=false:=by
 cases l with
 | nil=>simp at h
 | cons c l=>
   have e:=wordN_cons c l
   by_cases hc:isLet c=true
   ·rw[if_pos hc]at e
    have h2:runN isIn l<l.length:=by rw[e]at h;simp at h;omega
    have:=runN_at h2
    simp only[e,List.getElem_cons_succ,nameAt]
    simpa [isIn]using this
   ·rw[if_neg hc]at e
    simp only[e,List.getElem_cons_zero,nameAt]
    simpa using hc
theorem less_lt:∀(a b:List UInt8),a.length=b.length→allD a→∀x y:Nat,x<y→valD a x<valD b y
 | [],[],_,_,x,y,h=>h
 | [],_ :: _,h,_,_,_,_=>by simp at h
 | _ :: _,[],h,_,_,_,_=>by simp at h
 | c :: a,d :: b,h,ha,x,y,hxy=>by
   have hc:=dig_in (ha c (by simp))
   rw[valD_cons,valD_cons]
   exact less_lt a b (by simpa using h) (fun z hz=>ha z (by simp[hz])) _ _ (by omega)
theorem less_val:∀(a b:List UInt8),a.length=b.length→allD a→allD b→∀x:Nat,(Op.bytesLess a b=true↔valD a x<valD b x)∧(a=b↔valD a x=valD b x)
 | [],[],_,_,_,x=>⟨by simp[Op.bytesLess,valD],by simp⟩
 | [],_ :: _,h,_,_,_=>by simp at h
 | _ :: _,[],h,_,_,_=>by simp at h
 | c :: a,d :: b,h,ha,hb,x=>by
   have hc:=dig_in (ha c (by simp))
   have hd:=dig_in (hb d (by simp))
   have hl:a.length=b.length:=by simpa using h
   have ha2:allD a:=fun z hz=>ha z (by simp[hz])
   have hb2:allD b:=fun z hz=>hb z (by simp[hz])
   rw[valD_cons,valD_cons]
   have hlt:(c<d)↔c.toNat<d.toNat:=UInt8.lt_iff_toNat_lt
   rcases Nat.lt_trichotomy c.toNat d.toNat with h1 | h1 | h1
   ·have h2:=less_lt a b hl ha2 (x*10+(c.toNat - 48)) (x*10+(d.toNat - 48)) (by omega)
    have e1:¬c=d:=fun e=>by rw[e]at h1;omega
    exact⟨by simp[Op.bytesLess,hlt,h1,h2],by simp[e1];omega⟩
   ·have e1:c=d:=UInt8.toNat_inj.1 h1
    subst e1
    obtain⟨i1,i2⟩:=less_val a b hl ha2 hb2 (x*10+(c.toNat - 48))
    refine⟨?_, ?_⟩
    ·simp only[Op.bytesLess,beq_self_eq_true,Bool.true_and]
     have e2:(decide (c<c))=false:=by simp[hlt]
     rw[e2,Bool.false_or]
     exact i1
    ·simpa using i2
   ·have h2:=less_lt b a hl.symm hb2 (x*10+(d.toNat - 48)) (x*10+(c.toNat - 48)) (by omega)
    have e1:¬c=d:=fun e=>by rw[e]at h1;omega
    refine⟨?_,by simp[e1];omega⟩
    simp only[Op.bytesLess,Bool.or_eq_true,decide_eq_true_eq,Bool.and_eq_true,beq_iff_eq]
    constructor
    ·rintro(h3 | h3)
     ·exact absurd (hlt.1 h3) (by omega)
     ·exact absurd h3.1 e1
    ·intro h3;omega
end
section
open Go.RowKit Go.Extern.Stop Go.Stop Go.Extern
theorem etold_any {B:Nat}{x at':Int}{er:Value}{w:World}(h:ErrIs B x at' er w)(hx:0≤x∧x≤16)(hp:0≤at'→x≠0)(hg:Laid0 w):
 Calls Tryz.prog 12 #[er,.int .i64 x,.int .i64 at'] w fun e w'=>e= .returned (.bool true)∧Below w.heap.size w w':=by
 have hxx:(x == x)=true:=by simp
 by_cases ha:at'<0
 ·have HC:Hid (∀W,Calls Tryz.prog 20 #[codeV x] W fun e w'=>e= .returned (.int .i64 x)∧W=w'):=fun W=>by
   by_cases h0:x=0
   ·rw[h0,codeV_zero];exact code_nil W
   ·rw[codeV_ne h0];exact code_k x W (by omega) (by omega)
  rw[h.1 ha]
  clear h hg
  go_enter Tryz.func12,Tryz.ntmps12
  go_wp2_with fail
  refine(HC.out _).mono ?_
  rintro e w1 ⟨rfl,rfl⟩
  go_wp2_with fail
  go_ret
  exact⟨rfl,Below.refl _ _⟩
 ·obtain⟨g,e1,_,e3,e4,e5⟩:=h.2 (by omega)
  rw[codeV_ne (hp (by omega))]at e5
  have HI:=Lib.hid (sis_any g at' x w hg e3 e4 e5)
  rw[e1]
  clear h hg e1 e4 e5
  go_enter Tryz.func12,Tryz.ntmps12
  go_wp2_with fail
  refine HI.out.mono ?_
  rintro e w1 ⟨rfl,hb1⟩
  go_wp2_with fail
  go_ret
  exact⟨rfl,hb1⟩
end
section
open Go.RowKit
theorem rkey_any (s:ByteArray)(w:World):Calls Tryz.prog 62 #[.string s] w fun e w'=>e= .returned (.bool (keyB s.data.toList))∧Below w.heap.size w w':=by
 have HC:Hid (∀j,j<19→(w.alloc (.cells #[.string ⟨#[112,114,111,99]⟩,.string ⟨#[114,101,113,117,105,114,101,115]⟩,.string ⟨#[101,110,115,117,114,101,115]⟩,.string ⟨#[115,107,105,112]⟩,.string ⟨#[112,117,116]⟩,.string ⟨#[103,101,116]⟩,.string ⟨#[110,101,119]⟩,.string ⟨#[102,114,101,101]⟩,.string ⟨#[105,102]⟩,.string ⟨#[101,108,115,101]⟩,.string ⟨#[119,104,105,108,101]⟩,.string ⟨#[105,110,118,97,114,105,97,110,116]⟩,.string ⟨#[97,115,115,101,114,116]⟩,.string ⟨#[99,97,108,108]⟩,.string ⟨#[116,114,117,101]⟩,.string ⟨#[102,97,108,115,101]⟩,.string ⟨#[101,109,112]⟩,.string ⟨#[97,99,99]⟩,.string ⟨#[112,116,115]⟩] 9)).cell? ⟨w.heap.size,j,none⟩=some (.string (keyA j))):=fun j h=>by
  rw[cell_of_row _ _ _ _ _ _ (heap_alloc_new w _)]
  have e:(#[.string ⟨#[112,114,111,99]⟩,.string ⟨#[114,101,113,117,105,114,101,115]⟩,.string ⟨#[101,110,115,117,114,101,115]⟩,.string ⟨#[115,107,105,112]⟩,.string ⟨#[112,117,116]⟩,.string ⟨#[103,101,116]⟩,.string ⟨#[110,101,119]⟩,.string ⟨#[102,114,101,101]⟩,.string ⟨#[105,102]⟩,.string ⟨#[101,108,115,101]⟩,.string ⟨#[119,104,105,108,101]⟩,.string ⟨#[105,110,118,97,114,105,97,110,116]⟩,.string ⟨#[97,115,115,101,114,116]⟩,.string ⟨#[99,97,108,108]⟩,.string ⟨#[116,114,117,101]⟩,.string ⟨#[102,97,108,115,101]⟩,.string ⟨#[101,109,112]⟩,.string ⟨#[97,99,99]⟩,.string ⟨#[112,116,115]⟩]:Array Value)=keysV.toArray:=by rfl
  rw[e,List.getElem?_toArray]
  exact keysV_at h
 have HB:Hid (Below w.heap.size w (w.alloc (.cells #[.string ⟨#[112,114,111,99]⟩,.string ⟨#[114,101,113,117,105,114,101,115]⟩,.string ⟨#[101,110,115,117,114,101,115]⟩,.string ⟨#[115,107,105,112]⟩,.string ⟨#[112,117,116]⟩,.string ⟨#[103,101,116]⟩,.string ⟨#[110,101,119]⟩,.string ⟨#[102,114,101,101]⟩,.string ⟨#[105,102]⟩,.string ⟨#[101,108,115,101]⟩,.string ⟨#[119,104,105,108,101]⟩,.string ⟨#[105,110,118,97,114,105,97,110,116]⟩,.string ⟨#[97,115,115,101,114,116]⟩,.string ⟨#[99,97,108,108]⟩,.string ⟨#[116,114,117,101]⟩,.string ⟨#[102,97,108,115,101]⟩,.string ⟨#[101,109,112]⟩,.string ⟨#[97,99,99]⟩,.string ⟨#[112,116,115]⟩] 9))):=(Below.refl _ w).alloc (Nat.le_refl _) _
 have HH:=Lib.hid (fun i (h:i<19)=>keyB_hit2 (s:=s) h)
 have HM:=Lib.hid (keyB_miss2 (s:=s))
 generalize keyB s.data.toList=r at*
 go_enter Tryz.func62,Tryz.ntmps62
 go_wp2
 generalize w.alloc (.cells #[.string ⟨#[112,114,111,99]⟩,.string ⟨#[114,101,113,117,105,114,101,115]⟩,.string ⟨#[101,110,115,117,114,101,115]⟩,.string ⟨#[115,107,105,112]⟩,.string ⟨#[112,117,116]⟩,.string ⟨#[103,101,116]⟩,.string ⟨#[110,101,119]⟩,.string ⟨#[102,114,101,101]⟩,.string ⟨#[105,102]⟩,.string ⟨#[101,108,115,101]⟩,.string ⟨#[119,104,105,108,101]⟩,.string ⟨#[105,110,118,97,114,105,97,110,116]⟩,.string ⟨#[97,115,115,101,114,116]⟩,.string ⟨#[99,97,108,108]⟩,.string ⟨#[116,114,117,101]⟩,.string ⟨#[102,97,108,115,101]⟩,.string ⟨#[101,109,112]⟩,.string ⟨#[97,99,99]⟩,.string ⟨#[112,116,115]⟩] 9)=W1 at*
 go_loop [4] (fun i=>∃j:Nat,j≤19∧i= .int .i64 j∧Hid (∀q,q<j→keysL.getD q []≠s.data.toList)) (fun i=>19 - (intOf i).toNat)
 case atStart=>exact⟨0,Nat.zero_le _,rfl,fun q h=>absurd h (Nat.not_lt_zero _)⟩
 case round=>
  obtain⟨j,hj,rfl,hno⟩:=hrel
  by_cases hlt:j<19
  ·have hlti:(j:Int)<19:=by omega
   have hx:=HC.out j hlt
   have he:=keyA_ne (s:=s) (i:=j)
   by_cases hq:keysL.getD j []=s.data.toList
   ·obtain rfl:=HH.out j hlt hq
    rw[decide_eq_true hq]at he
    clear hq
    go_wp2
    go_ret
    exact⟨rfl,HB.out⟩
   ·have hno2:Hid (∀q,q<j+1→keysL.getD q []≠s.data.toList):=fun q h=>by
     by_cases e:q=j
     ·rw[e];exact hq
     ·exact hno.out q (by omega)
    rw[decide_eq_false hq]at he
    clear hq
    go_wp2
    go_round
    case rel=>exact⟨j+1,by omega,by go_num,hno2⟩
    case measure=>simp[intOf];omega
  ·obtain rfl:j=19:=by omega
   obtain rfl:=HM.out (fun i h=>hno.out i h)
   go_wp2
   go_ret
   exact⟨rfl,HB.out⟩
end
section
open Go.RowKit
theorem rletter_any (c:UInt8)(w:World):Calls Tryz.prog 63 #[.int .u8 (c.toNat:Int)] w fun e w'=>e= .returned (.bool (isLet c))∧w=w':=by
 have hlt:=c.toNat_lt
 have q95:decide (c.toNat=95)=((c.toNat:Int) == 95):=by rw[Bool.eq_iff_iff];simp;omega
 have q97:decide (97≤c.toNat)=decide (97≤(c.toNat:Int)):=by rw[Bool.eq_iff_iff];simp;omega
 have q122:decide (c.toNat≤122)=decide ((c.toNat:Int)≤122):=by rw[Bool.eq_iff_iff];simp;omega
 have q65:decide (65≤c.toNat)=decide (65≤(c.toNat:Int)):=by rw[Bool.eq_iff_iff];simp;omega
 have q90:decide (c.toNat≤90)=decide ((c.toNat:Int)≤90):=by rw[Bool.eq_iff_iff];simp;omega
 have E:Hid (isLet c=(((c.toNat:Int) == 95) || (decide (97≤(c.toNat:Int)) && decide ((c.toNat:Int)≤122)) || (decide (65≤(c.toNat:Int)) && decide ((c.toNat:Int)≤90)))):=by
  show _=_
  unfold isLet;rw[q95,q97,q122,q65,q90]
 clear q95 q97 q122 q65 q90
 generalize (c.toNat:Int)=r at*
 have go:∀(b1 b2 b3 b4 b5:Bool),decide (97≤r)=b1→decide (r≤122)=b2→decide (65≤r)=b3→decide (r≤90)=b4→(r == 95)=b5→Calls Tryz.prog 63 #[.int .u8 r] w fun e w'=>e= .returned (.bool (b5 || (b1 && b2) || (b3 && b4)))∧w=w':=fun b1 b2 b3 b4 b5 h1 h2 h3 h4 h5=>by
  clear E hlt
  cases b1<;>cases b2<;>cases b3<;>cases b4<;>cases b5
  all_goals
   go_enter Tryz.func63,Tryz.ntmps63
   go_wp2
   go_ret
   exact⟨rfl,rfl⟩
 rw[E.out]
 exact go _ _ _ _ _ rfl rfl rfl rfl rfl
theorem rdig_any (c:UInt8)(w:World):Calls Tryz.prog 60 #[.int .u8 (c.toNat:Int)] w fun e w'=>e= .returned (.bool (isDig c))∧w=w':=by
 have q1:decide (48≤c.toNat)=decide (48≤(c.toNat:Int)):=by rw[Bool.eq_iff_iff];simp;omega
 have q2:decide (c.toNat≤57)=decide ((c.toNat:Int)≤57):=by rw[Bool.eq_iff_iff];simp;omega
 have E:Hid (isDig c=(decide (48≤(c.toNat:Int)) && decide ((c.toNat:Int)≤57))):=by
  show _=_
  unfold isDig;rw[q1,q2]
 clear q1 q2
 generalize (c.toNat:Int)=r at*
 have go:∀(b1 b2:Bool),decide (48≤r)=b1→decide (r≤57)=b2→Calls Tryz.prog 60 #[.int .u8 r] w fun e w'=>e= .returned (.bool (b1 && b2))∧w=w':=fun b1 b2 h1 h2=>by
  clear E
  cases b1<;>cases b2
  all_goals
   go_enter Tryz.func60,Tryz.ntmps60
   go_wp2
   go_ret
   exact⟨rfl,rfl⟩
 rw[E.out]
 exact go _ _ rfl rfl
theorem wordD_lt {l:List UInt8}{at' n:Nat}(h:n<wordN (l.drop at')):∃hk:at'+n<l.length,nameAt n (l[at'+n])=true:=by
 obtain⟨h1,h2⟩:=wordN_lt h
 rw[List.length_drop]at h1
 exact⟨by omega,by rw[List.getElem_drop]at h2;exact h2⟩
theorem wordD_at {l:List UInt8}{at':Nat}(h:at'+wordN (l.drop at')<l.length):nameAt (wordN (l.drop at')) (l[at'+wordN (l.drop at')])=false:=by
 have:=wordN_at (l:=l.drop at') (by rw[List.length_drop];omega)
 rw[List.getElem_drop]at this
 exact this
theorem wordD_le {l:List UInt8}{at':Nat}(h:at'≤l.length):at'+wordN (l.drop at')≤l.length:=by
 have:=wordN_le (l.drop at')
 rw[List.length_drop]at this
 omega
theorem rword_any (s:ByteArray)(at':Nat)(w:World)(hs:s.size≤1000000)(ha:at'≤s.size):Calls Tryz.prog 59 #[.string s,.int .i64 at'] w fun e w'=>e= .returned (.int .i64 (wordN (s.data.toList.drop at')))∧w=w':=by
 have hsz:=size_l s
 have HLT:=Lib.hid (fun n=>wordD_lt (l:=s.data.toList) (at':=at') (n:=n))
 have HAT:=Lib.hid (wordD_at (l:=s.data.toList) (at':=at'))
 have hle:=wordD_le (l:=s.data.toList) (at':=at') (by omega)
 generalize wordN (s.data.toList.drop at')=N at*
 have hN:at'+N≤s.size:=by omega
 have HZ:=Lib.hid hsz
 clear hsz hle
 go_enter Tryz.func59,Tryz.ntmps59
 go_wp2
 go_loop [5] (fun i=>∃n:Nat,n≤N∧i= .int .i64 n) (fun i=>N - (intOf i).toNat)
 case atStart=>exact⟨0,Nat.zero_le _,rfl⟩
 case round=>
  obtain⟨n,hn,rfl⟩:=hrel
  by_cases hin:at'+n<s.size
  ·have hini:(at':Int)+(n:Int)<(s.size:Int):=by omega
   have hix:∀W,(Instr.index 9 (.string s) (.int .i64 ((at':Int)+(n:Int)))).run Tryz.prog W= .ok (.int .u8 ((s[at'+n]'hin).toNat:Int)) W:=fun W=>by
    have e:((at':Int)+(n:Int))=((at'+n:Nat):Int):=by omega
    rw[e,run_index_string W _ s .i64 _ Tryz.underlying9,dif_pos ⟨by omega,by omega⟩]
    rfl
   have hg:=get_l s (at'+n) hin
   have HL:=Lib.hid (fun W=>rletter_any (s[at'+n]'hin) W)
   have HD:=Lib.hid (fun W=>rdig_any (s[at'+n]'hin) W)
   by_cases hlt:n<N
   ·obtain⟨_,hna⟩:=HLT.out n hlt
    rw[←hg]at hna
    clear hg
    generalize s[at'+n]'hin=c at*
    unfold nameAt at hna
    have hlti:¬N≤n:=by omega
    cases hl:isLet c with
    | true=>
      rw[hl]at HL
      clear hna hl
      go_wp2_with fail
      refine(HL.out _).mono ?_
      rintro e w1 ⟨rfl,rfl⟩
      go_wp2
      go_round
      case rel=>exact⟨n+1,by omega,by go_num⟩
      case measure=>simp[intOf];omega
    | false=>
      rw[hl]at hna HL
      simp only[Bool.false_or,Bool.and_eq_true,decide_eq_true_eq]at hna
      obtain⟨hn0,hd⟩:=hna
      rw[hd]at HD
      have hn0i:(0:Int)<(n:Int):=by omega
      clear hl hd
      go_wp2_with fail
      refine(HL.out _).mono ?_
      rintro e w1 ⟨rfl,rfl⟩
      go_wp2_with fail
      refine(HD.out _).mono ?_
      rintro e w1 ⟨rfl,rfl⟩
      go_wp2
      go_round
      case rel=>exact⟨n+1,by omega,by go_num⟩
      case measure=>simp[intOf];omega
   ·obtain rfl:n=N:=by omega
    have hna:=HAT.out (by rw[HZ.out];exact hin)
    rw[←hg]at hna
    clear hg
    generalize s[at'+n]'hin=c at*
    unfold nameAt at hna
    rw[Bool.or_eq_false_iff]at hna
    obtain⟨hl,hna⟩:=hna
    rw[hl]at HL
    by_cases hn0:0<n
    ·have hd:isDig c=false:=by simpa [hn0]using hna
     rw[hd]at HD
     have hn0i:(0:Int)<(n:Int):=by omega
     clear hl hd hna
     go_wp2_with fail
     refine(HL.out _).mono ?_
     rintro e w1 ⟨rfl,rfl⟩
     go_wp2_with fail
     refine(HD.out _).mono ?_
     rintro e w1 ⟨rfl,rfl⟩
     go_wp2
     go_ret
     exact⟨rfl,rfl⟩
    ·have hn0i:¬(0:Int)<(n:Int):=by omega
     clear hl hna
     go_wp2_with fail
     refine(HL.out _).mono ?_
     rintro e w1 ⟨rfl,rfl⟩
     go_wp2
     go_ret
     exact⟨rfl,rfl⟩
  ·obtain rfl:n=N:=by
    rcases Nat.lt_or_ge n N with h | h
    ·obtain⟨h1,_⟩:=HLT.out n h
     rw[HZ.out]at h1;exact absurd h1 hin
    ·omega
   have hini:¬(at':Int)+(n:Int)<(s.size:Int):=by omega
   go_wp2
   go_ret
   exact⟨rfl,rfl⟩
end
section
open Go.RowKit
theorem stp_bad {l:List UInt8}{c:Int}(h:stp l= .bad c):c=2∨c=5∨c=10:=by
 cases l with
 | nil=>cases h
 | cons x r=>
   rw[stp]at h
   unfold numS at h
   repeat' split at h
   all_goals first | (cases h;done) | (injection h with h;omega)
end
section
open Go.RowKit
theorem below_drewN {B:Nat}{w W:World}(h:Below B w W)(n:Nat):Below B w (W.drewN n):=by
 induction n with
 | zero=>exact h
 | succ n ih=>exact ih.drew
def onesS:ByteArray:=⟨#[40,41,123,125,91,93,44,59,46,43,45,42,60,33,38]⟩
theorem one_at (j:Nat)(h:j<15)(W:World):(Instr.index 9 (.string ⟨#[40,41,123,125,91,93,44,59,46,43,45,42,60,33,38]⟩) (.int .i64 j)).run Tryz.prog W= .ok (.int .u8 ((onesL.getD j 0).toNat:Int)) W:=by
 rw[run_index_string W _ _ .i64 _ Tryz.underlying9,dif_pos ⟨by omega,by show(j:Int)<15;omega⟩]
 have e:(⟨#[40,41,123,125,91,93,44,59,46,43,45,42,60,33,38]⟩:ByteArray)[(j:Int).toNat]'(by show(j:Int).toNat<15;omega)=onesL.getD j 0:=by
  rw[get_l]
  simp only[Int.toNat_natCast]
  rw[List.getD_eq_getElem?_getD,List.getElem?_eq_getElem (show j<onesL.length from h)]
  rfl
 rw[e]
def oneA (j:Nat):ByteArray:=onesS.extract j (j+1)
theorem one_slice (j:Nat)(h:j<15)(W:World):(Instr.slice 9 (.string ⟨#[40,41,123,125,91,93,44,59,46,43,45,42,60,33,38]⟩) (some (.int .i64 j)) (some (.int .i64 ((j:Int)+1))) none).run Tryz.prog W= .ok (.string (oneA j)) W:=
 slice_mid (s:=⟨#[40,41,123,125,91,93,44,59,46,43,45,42,60,33,38]⟩) (a:=j) (b:=j+1) W rfl (by omega) (by omega) (by show j+1≤15;omega)
theorem oneA_data (j:Nat)(h:j<15):(oneA j).data.toList=[onesL.getD j 0]:=by
 unfold oneA
 rw[Lib.extract_data,Nat.add_sub_cancel_left]
 have e:onesS.data.toList=onesL:=rfl
 rw[e,cons_of (show j<onesL.length from h),List.take_succ_cons,List.take_zero,List.getD_eq_getElem?_getD,List.getElem?_eq_getElem (show j<onesL.length from h)]
 rfl
def twoA (j:Nat):ByteArray:=⟨(twosL.getD j []).toArray⟩
theorem twoA_data (j:Nat):(twoA j).data.toList=twosL.getD j []:=by simp[twoA]
theorem two_mem {j:Nat}(h:j<6):twosL.getD j []∈twosL:=by
 rw[List.getD_eq_getElem?_getD,List.getElem?_eq_getElem (show j<twosL.length from h)];exact List.getElem_mem _
theorem two_cmp (s:ByteArray)(a j:Nat):((s.extract a (a+2)).toList == (twoA j).toList)=decide ((s.data.toList.drop a).take 2=twosL.getD j []):=by
 rw[Bool.eq_iff_iff]
 simp only[Lib.toList_data,Lib.extract_data,twoA_data,beq_iff_eq,decide_eq_true_eq,Nat.add_sub_cancel_left]
def OpEnd (l:List UInt8)(w:World)(e:Ending)(w':World):Prop:=
 ∃o:ByteArray,e= .returned (.string o)∧o.data.toList=l.take (opN l)∧Below w.heap.size w w'
theorem rop_any (s:ByteArray)(at':Nat)(w:World)(hs:s.size≤1000000)(ha:at'<s.size):Calls Tryz.prog 61 #[.string s,.int .i64 at'] w (OpEnd (s.data.toList.drop at') w):=by
 have hsz:=size_l s
 have hal:at'<s.data.toList.length:=by omega
 obtain⟨c,hc⟩:∃c,s.data.toList[at']=c:=⟨_,rfl⟩
 have hcons:s.data.toList.drop at'=c :: s.data.toList.drop (at'+1):=by rw[cons_of hal,hc]
 have hixc:∀W,(Instr.index 9 (.string s) (.int .i64 (at':Int))).run Tryz.prog W= .ok (.int .u8 (c.toNat:Int)) W:=fun W=>by
  rw[run_index_string W _ s .i64 _ Tryz.underlying9,dif_pos ⟨by omega,by omega⟩]
  have e:s[(at':Int).toNat]'(by simpa using ha)=c:=by
   rw[get_l];simpa using hc
  rw[e]
 have HTWO:Hid (∀j,j<6→(s.data.toList.drop at').take 2=twosL.getD j []→(twoA j).data.toList=(s.data.toList.drop at').take (opN (s.data.toList.drop at'))):=fun j hj e=>by
  rw[opN_two (by rw[e];exact two_mem hj),twoA_data,e]
 have hnt:(¬at'+1<s.size)→(s.data.toList.drop at').take 2∉twosL:=fun h hm=>by
  have:=twos_two _ hm
  rw[List.length_take,List.length_drop,hsz]at this
  omega
 have hnt2:(∀j,j<6→(s.data.toList.drop at').take 2≠twosL.getD j [])→(s.data.toList.drop at').take 2∉twosL:=fun h hm=>by
  obtain⟨j,hj,e⟩:=List.getElem_of_mem hm
  exact h j hj (by rw[List.getD_eq_getElem?_getD,List.getElem?_eq_getElem hj];exact e.symm)
 have hone:(s.data.toList.drop at').take 2∉twosL→(∀j,j<15→onesL.getD j 0=c→(oneA j).data.toList=(s.data.toList.drop at').take (opN (s.data.toList.drop at')))∧((∀j,j<15→onesL.getD j 0≠c)→(⟨#[]⟩:ByteArray).data.toList=(s.data.toList.drop at').take (opN (s.data.toList.drop at'))):=fun h=>by
  rw[hcons]at h⊢
  refine⟨fun j hj e=> ?_,fun hno=> ?_⟩
  ·rw[opN_one h (by rw[←e,List.getD_eq_getElem?_getD,List.getElem?_eq_getElem (show j<onesL.length from hj)];exact List.getElem_mem _),oneA_data j hj,e];rfl
  ·rw[opN_none h (fun hm=>by
    obtain⟨j,hj,e⟩:=List.getElem_of_mem hm
    exact hno j hj (by rw[List.getD_eq_getElem?_getD,List.getElem?_eq_getElem hj];exact e))];rfl
 have HNT:=Lib.hid hnt
 have HNT2:=Lib.hid hnt2
 have HON:=Lib.hid hone
 have HIX:=Lib.hid hixc
 clear hsz hal hc hcons hnt hnt2 hone hixc
 by_cases h2:at'+1<s.size
 ·have h2i:(at':Int)+1<(s.size:Int):=by omega
  have hsl:=fun W=>slice_mid (s:=s) (a:=at') (b:=at'+2) (x:=(at':Int)) (y:=(at':Int)+2) W rfl (by omega) (by omega) (by omega)
  have HC:Hid (∀j,j<6→(w.alloc (.cells #[.string ⟨#[58,61]⟩,.string ⟨#[61,61]⟩,.string ⟨#[33,61]⟩,.string ⟨#[60,61]⟩,.string ⟨#[38,38]⟩,.string ⟨#[124,124]⟩] 9)).cell? ⟨w.heap.size,j,none⟩=some (.string (twoA j))):=fun j h=>by
   rw[cell_of_row _ _ _ _ _ _ (heap_alloc_new w _)]
   have e:(#[.string ⟨#[58,61]⟩,.string ⟨#[61,61]⟩,.string ⟨#[33,61]⟩,.string ⟨#[60,61]⟩,.string ⟨#[38,38]⟩,.string ⟨#[124,124]⟩]:Array Value)=(twosL.map fun l=>Value.string ⟨l.toArray⟩).toArray:=by rfl
   rw[e,List.getElem?_toArray,List.getElem?_map,List.getElem?_eq_getElem (show j<twosL.length from h)]
   simp only[Option.map_some,twoA,List.getD_eq_getElem?_getD,List.getElem?_eq_getElem (show j<twosL.length from h),Option.getD_some]
  have HB:Hid (Below w.heap.size w (w.alloc (.cells #[.string ⟨#[58,61]⟩,.string ⟨#[61,61]⟩,.string ⟨#[33,61]⟩,.string ⟨#[60,61]⟩,.string ⟨#[38,38]⟩,.string ⟨#[124,124]⟩] 9))):=(Below.refl _ w).alloc (Nat.le_refl _) _
  have HCM:=Lib.hid (fun j=>two_cmp s at' j)
  generalize s.extract at' (at'+2)=tt at*
  go_enter Tryz.func61,Tryz.ntmps61
  go_wp2
  generalize w.alloc (.cells #[.string ⟨#[58,61]⟩,.string ⟨#[61,61]⟩,.string ⟨#[33,61]⟩,.string ⟨#[60,61]⟩,.string ⟨#[38,38]⟩,.string ⟨#[124,124]⟩] 9)=W1 at*
  go_loopw [6] (fun i wr=>∃j:Nat,j≤6∧i= .int .i64 j∧Hid (∀q,q<j→(s.data.toList.drop at').take 2≠twosL.getD q [])∧Hid (∃q,wr=W1.drewN q)) (fun i _=>6 - (intOf i).toNat)
  case atStart=>exact⟨0,Nat.zero_le _,rfl,fun q h=>absurd h (Nat.not_lt_zero _),0,rfl⟩
  case round=>
   obtain⟨j,hj,rfl,hno,hw⟩:=hrel
   obtain⟨q,hw⟩:=hw.out
   subst hw
   by_cases hlt:j<6
   ·have hlti:(j:Int)<6:=by omega
    have hx:=HC.out j hlt
    have he:=HCM.out j
    by_cases hq:(s.data.toList.drop at').take 2=twosL.getD j []
    ·have HO:=Lib.hid (HTWO.out j hlt hq)
     rw[decide_eq_true hq]at he
     clear hq hno
     generalize twoA j=o at*
     go_wp2_with fail
     go_quiet (fail)
     go_wp2
     go_ret
     exact⟨_,rfl,HO.out,below_drewN HB.out (q+nq)⟩
    ·have hno2:Hid (∀q,q<j+1→(s.data.toList.drop at').take 2≠twosL.getD q []):=fun q h=>by
      by_cases e:q=j
      ·rw[e];exact hq
      ·exact hno.out q (by omega)
     rw[decide_eq_false hq]at he
     clear hq hno
     generalize twoA j=o at*
     go_wp2_with fail
     go_quiet (fail)
     go_wp2
     go_roundw
     case rel=>exact⟨j+1,by omega,by go_num,hno2,⟨q+nq,rfl⟩⟩
     case measure=>simp[intOf];omega
   ·obtain rfl:j=6:=by omega
    have BZ:=Lib.hid (below_drewN HB.out q)
    obtain⟨h1,h2⟩:=HON.out (HNT2.out hno.out)
    have HONE:=Lib.hid h1
    have HNONE:=Lib.hid h2
    have hixc:=HIX.out
    clear h1 h2 hno HC HCM HTWO HNT HNT2 HON HIX hsl
    go_wp2_with fail
    go_loopw [8] (fun i wr=>∃j:Nat,j≤15∧i= .int .i64 j∧Hid (∀q,q<j→onesL.getD q 0≠c)∧Hid (Below w.heap.size w wr)) (fun i _=>15 - (intOf i).toNat)
    case atStart=>exact⟨0,Nat.zero_le _,rfl,fun q h=>absurd h (Nat.not_lt_zero _),BZ.out⟩
    case round=>
     obtain⟨j,hj,rfl,hno,hbr⟩:=hrel
     by_cases hlt:j<15
     ·have hlti:(j:Int)<15:=by omega
      have hx:=fun W=>one_at j hlt W
      by_cases hq:onesL.getD j 0=c
      ·have he:((c.toNat:Int) == ((onesL.getD j 0).toNat:Int))=true:=by rw[hq];simp
       have HO:=Lib.hid (HONE.out j hlt hq)
       have hsl2:=fun W=>one_slice j hlt W
       clear hq hno
       generalize onesL.getD j 0=d at hx he
       go_wp2_with fail
       go_quiet (fail)
       go_wp2
       go_ret
       exact⟨_,rfl,HO.out,below_drewN hbr.out nq⟩
      ·have he:((c.toNat:Int) == ((onesL.getD j 0).toNat:Int))=false:=by
        rw[Bool.eq_false_iff];simp only[ne_eq,beq_iff_eq]
        intro e;exact hq (UInt8.toNat_inj.1 (by omega))
       have hno2:Hid (∀q,q<j+1→onesL.getD q 0≠c):=fun q h=>by
        by_cases e:q=j
        ·rw[e];exact hq
        ·exact hno.out q (by omega)
       have HBD:=Lib.hid (fun nq=>below_drewN hbr.out nq)
       clear hq hno hbr
       generalize onesL.getD j 0=d at hx he
       go_wp2_with fail
       go_quiet (fail)
       go_wp2
       go_roundw
       case rel=>exact⟨j+1,by omega,by go_num,hno2,HBD.out _⟩
       case measure=>simp[intOf];omega
     ·obtain rfl:j=15:=by omega
      have HO:=Lib.hid (HNONE.out (fun q h=>hno.out q h))
      go_wp2
      go_ret
      exact⟨_,rfl,HO.out,hbr.out⟩
 ·have h2i:¬(at':Int)+1<(s.size:Int):=by omega
  have BZ:=Lib.hid (Below.refl w.heap.size w)
  obtain⟨h1,h2⟩:=HON.out (HNT.out h2)
  have HONE:=Lib.hid h1
  have HNONE:=Lib.hid h2
  have hixc:=HIX.out
  clear h1 h2 HTWO HNT HNT2 HON HIX
  go_enter Tryz.func61,Tryz.ntmps61
  go_wp2_with fail
  go_loopw [8] (fun i wr=>∃j:Nat,j≤15∧i= .int .i64 j∧Hid (∀q,q<j→onesL.getD q 0≠c)∧Hid (Below w.heap.size w wr)) (fun i _=>15 - (intOf i).toNat)
  case atStart=>exact⟨0,Nat.zero_le _,rfl,fun q h=>absurd h (Nat.not_lt_zero _),BZ.out⟩
  case round=>
   obtain⟨j,hj,rfl,hno,hbr⟩:=hrel
   by_cases hlt:j<15
   ·have hlti:(j:Int)<15:=by omega
    have hx:=fun W=>one_at j hlt W
    by_cases hq:onesL.getD j 0=c
    ·have he:((c.toNat:Int) == ((onesL.getD j 0).toNat:Int))=true:=by rw[hq];simp
     have HO:=Lib.hid (HONE.out j hlt hq)
     have hsl2:=fun W=>one_slice j hlt W
     clear hq hno
     generalize onesL.getD j 0=d at hx he
     go_wp2_with fail
     go_quiet (fail)
     go_wp2
     go_ret
     exact⟨_,rfl,HO.out,below_drewN hbr.out nq⟩
    ·have he:((c.toNat:Int) == ((onesL.getD j 0).toNat:Int))=false:=by
      rw[Bool.eq_false_iff];simp only[ne_eq,beq_iff_eq]
      intro e;exact hq (UInt8.toNat_inj.1 (by omega))
     have hno2:Hid (∀q,q<j+1→onesL.getD q 0≠c):=fun q h=>by
      by_cases e:q=j
      ·rw[e];exact hq
      ·exact hno.out q (by omega)
     have HBD:=Lib.hid (fun nq=>below_drewN hbr.out nq)
     clear hq hno hbr
     generalize onesL.getD j 0=d at hx he
     go_wp2_with fail
     go_quiet (fail)
     go_wp2
     go_roundw
     case rel=>exact⟨j+1,by omega,by go_num,hno2,HBD.out _⟩
     case measure=>simp[intOf];omega
   ·obtain rfl:j=15:=by omega
    have HO:=Lib.hid (HNONE.out (fun q h=>hno.out q h))
    go_wp2
    go_ret
    exact⟨_,rfl,HO.out,hbr.out⟩
end
section
open Go.RowKit
theorem At.skip1 {s:ByteArray}{R:Res}{i n:Nat}{ts:List Tok}(h:At s R i ts)(hi:i<s.size)(hs:stp (s.data.toList.drop i)= .skip n)(hn:1≤n):At s R (i+n) ts:=by
 have hl:=stp_skip_le hs
 rw[List.length_drop,size_l]at hl
 exact⟨by omega,h.eq.skip (by rw[size_l];exact hi) hs hn,by have:=h.few;omega⟩
theorem stp_bl {c:UInt8}{r:List UInt8}(h:isBl c=true):stp (c :: r)= .skip 1:=by rw[stp,if_pos h]
theorem stp_cm {c:UInt8}{r:List UInt8}(h:c.toNat=47)(h2:r.head? =some 47):stp (c :: r)= .skip (runN notNl (c :: r))∧1≤runN notNl (c :: r):=by
 refine⟨by rw[stp,notBl_slash h,if_neg (by simp),if_pos ⟨h,h2⟩], ?_⟩
 rw[runN_cons,if_pos (by simp[notNl,h])];omega
theorem noSkip_c {c:UInt8}{r:List UInt8}(h:isBl c=false)(h2:¬(c.toNat=47∧r.head? =some 47)):NoSkip (c :: r):=fun n=>by
 rw[stp,h,if_neg (by simp),if_neg h2]
 repeat' split
 all_goals first | (intro h;cases h) | (unfold numS;split<;>(intro h;cases h))
theorem slash_none {c:UInt8}{r:List UInt8}(h:c.toNat=47):wordN (c :: r)=0∧runN isDig (c :: r)=0∧opN (c :: r)=0:=by
 obtain rfl:c=47:=UInt8.toNat_inj.1 h
 refine⟨by rw[wordN_cons,if_neg (by decide)],by rw[runN_cons,if_neg (by decide)], ?_⟩
 refine opN_none (fun hm=> ?_) (by decide)
 have hl:=twos_two _ hm
 cases r with
 | nil=>simp at hl
 | cons d r=>
   simp only[List.take_succ_cons,List.take_zero,twosL,List.mem_cons,List.cons.injEq,List.not_mem_nil,or_false]at hm
   rcases hm with h | h | h | h | h | h<;>exact absurd h.1 (by decide)
theorem isBl_x {c:UInt8}{x:Int}(hx:x=(c.toNat:Int)):isBl c=true↔x=32∨x=9∨x=10:=by
 simp only[isBl,Bool.or_eq_true,decide_eq_true_eq];omega
theorem ext_at {s:ByteArray}{i n:Nat}(h:i+n≤s.size):(s.extract i (i+n)).data.toList=(s.data.toList.drop i).take n∧(s.extract i (i+n)).size=n:=by
 have e:(s.extract i (i+n)).data.toList=(s.data.toList.drop i).take n:=by rw[Lib.extract_data,Nat.add_sub_cancel_left]
 exact⟨e,by rw[←size_l,e,List.length_take,List.length_drop,size_l];omega⟩
theorem big_cmp {t:ByteArray}(hD:allD t.data.toList)(hl:t.data.toList.length=10)(W:World):(binOp .gtr 9 (.string t) (.string ⟨#[49,48,55,51,55,52,49,56,50,52]⟩)).run Tryz.prog W= .ok (.bool (decide (1073741824<valD t.data.toList 0))) W:=by
 have e:binOp .gtr 9 (.string t) (.string ⟨#[49,48,55,51,55,52,49,56,50,52]⟩)=pure (.bool !(Op.bytesLess t.toList (⟨#[49,48,55,51,55,52,49,56,50,52]⟩:ByteArray).toList || t.toList == (⟨#[49,48,55,51,55,52,49,56,50,52]⟩:ByteArray).toList)):=by simp[binOp,Op.stringOp]
 have h:=less_val t.data.toList [49,48,55,51,55,52,49,56,50,52] (by rw[hl];rfl) hD (by unfold allD;decide) 0
 have hv:valD [49,48,55,51,55,52,49,56,50,52] 0=1073741824:=by decide
 rw[hv]at h
 rw[e,Lib.toList_data,Lib.toList_data]
 have hb:Op.bytesLess t.data.toList [49,48,55,51,55,52,49,56,50,52]=decide (valD t.data.toList 0<1073741824):=by rw[Bool.eq_iff_iff,decide_eq_true_eq];exact h.1
 have hq:(t.data.toList == [49,48,55,51,55,52,49,56,50,52])=decide (valD t.data.toList 0=1073741824):=by rw[Bool.eq_iff_iff,decide_eq_true_eq,beq_iff_eq];exact h.2
 show Result.ok (Value.bool !(Op.bytesLess t.data.toList [49,48,55,51,55,52,49,56,50,52] || t.data.toList == [49,48,55,51,55,52,49,56,50,52])) W=_
 rw[hb,hq]
 generalize valD t.data.toList 0=V
 rcases Nat.lt_trichotomy V 1073741824 with h1 | h1 | h1
 ·rw[decide_eq_true h1,decide_eq_false (show ¬ 1073741824<V by omega)];rfl
 ·rw[decide_eq_false (show ¬V<1073741824 by omega),decide_eq_true h1,decide_eq_false (show ¬ 1073741824<V by omega)];rfl
 ·rw[decide_eq_false (show ¬V<1073741824 by omega),decide_eq_false (show ¬V=1073741824 by omega),decide_eq_true h1];rfl
def RScanEnd (r:Int×Int×List Tok)(w:World)(e:Ending)(w':World):Prop:=
 ∃v,e= .returned (.tuple #[v,.int .i64 r.1,.int .i64 r.2.1])∧TRow w.heap.size r.2.2 v w'∧Below w.heap.size w w'
end
section
open Go.RowKit
section
variable (tk:List Tok) (en:Nat)
def dnx (s:PS):ByteArray:=if s.er=none∧s.nx<tk.length∧(tk.getD s.nx tok0).kind≠1∧(tk.getD s.nx tok0).kind≠3 then(tk.getD s.nx tok0).text else(⟨#[]⟩:ByteArray)
def deat (t:ByteArray)(s:PS):PS:=if dnx tk s=t then pgo s else pfail tk en 11 s
def ddeeper (s:PS):PS:=pdn (if s.ne=50 then pfail tk en 4 s else s)
def dbegin (t:ByteArray)(s:PS):PS:=deat tk en t (if dnx tk s=t then ddeeper tk en s else s)
def dfin (t:ByteArray)(s:PS):PS:=pup (deat tk en t s)
def dtext (k:Int)(s:PS):ByteArray×PS:=if pkd tk s=k then((tk.getD s.nx tok0).text,pgo s) else((⟨#[]⟩:ByteArray),pfail tk en 11 s)
def dnum (s:PS):Int×PS:=(pval (dtext tk en 3 s).1,(dtext tk en 3 s).2)
def dcom {α:Type}(f:PS→α×PS):Nat→List α→PS→List α×PS
 | 0,l,s=>(l,s)
 | k+1,l,s=>if dnx tk s=(⟨#[44]⟩:ByteArray) then dcom f k (l ++ [(f (pgo s)).1]) (f (pgo s)).2 else(l,s)
def dmany {α:Type}(f:PS→α×PS)(s:PS):List α×PS:=dcom tk f (tk.length+1) [(f s).1] (f s).2
def dnames (least:Bool)(s:PS):List ByteArray×PS:=if least=false∧pkd tk s≠1 then([],s) else dmany tk (dtext tk en 1) s
def dexprs (f:PS→ET×PS)(until':ByteArray)(s:PS):List ET×PS:=if dnx tk s=until' then([],s) else dmany tk f s
def dbin {α:Type}(w:ByteArray)(mk:α→α→α)(f:PS→α×PS):Nat→α→PS→α×PS
 | 0,a,s=>(a,s)
 | k+1,a,s=>if dnx tk s=w then dbin w mk f k (mk a (f (pgo s)).1) (f (pgo s)).2 else(a,s)
def dsum (f:PS→ET×PS):Nat→ET→PS→ET×PS
 | 0,e,s=>(e,s)
 | k+1,e,s=>if dnx tk s=(⟨#[43]⟩:ByteArray)∨dnx tk s=(⟨#[45]⟩:ByteArray) then dsum f k (.mk (if dnx tk s=(⟨#[45]⟩:ByteArray) then 3 else 2) 0 (⟨#[]⟩:ByteArray) [e,(f (pgo s)).1]) (f (pgo s)).2 else(e,s)
def dexpr (f:PS→ET×PS)(s:PS):ET×PS:=dsum tk f (tk.length+1) (f s).1 (f s).2
def dnumE (f:PS→ET×PS)(m:Bool)(s:PS):ET×PS:=
 if s.nx+1<tk.length∧(tk.getD (s.nx+1) tok0).text=(⟨#[42]⟩:ByteArray) then
  let a:=dnum tk en (ddeeper tk en s)
  let b:=f (deat tk en (⟨#[42]⟩:ByteArray) a.2)
  (.mk 4 (if m then -a.1 else a.1) (⟨#[]⟩:ByteArray) [b.1],pup b.2)
 else(.mk 0 (if m then -(dnum tk en s).1 else(dnum tk en s).1) (⟨#[]⟩:ByteArray) [],(dnum tk en s).2)
def dprod:Nat→PS→ET×PS
 | 0,s=>(default,s)
 | n+1,s=>
   let m:=decide (dnx tk s=(⟨#[45]⟩:ByteArray))
   let s1:=if dnx tk s=(⟨#[45]⟩:ByteArray) then pgo s else s
   if pkd tk s1=3 then dnumE tk en (dprod n) m s1
   else if m=false∧dnx tk s1=(⟨#[40]⟩:ByteArray) then
    let e:=dexpr tk (dprod n) (dbegin tk en (⟨#[40]⟩:ByteArray) s1)
    (e.1,dfin tk en (⟨#[41]⟩:ByteArray) e.2)
   else
    let s2:=if m then pfail tk en 11 s1 else s1
    (.mk 1 0 (dtext tk en 1 s2).1 [],(dtext tk en 1 s2).2)
def dex (s:PS):ET×PS:=dexpr tk (dprod tk en 53) s
def dcmp (s:PS):CT×PS:=
 let a:=dex tk en s
 let k:Int:=if dnx tk a.2=(⟨#[61,61]⟩:ByteArray) then 2 else if dnx tk a.2=(⟨#[33,61]⟩:ByteArray) then 3 else if dnx tk a.2=(⟨#[60]⟩:ByteArray) then 4 else if dnx tk a.2=(⟨#[60,61]⟩:ByteArray) then 5 else 0
 let b:=dex tk en (if k=0 then pfail tk en 11 a.2 else pgo a.2)
 (.mk k [a.1,b.1] [],b.2)
def dall (f:PS→CT×PS)(s:PS):CT×PS:=dbin tk (⟨#[38,38]⟩:ByteArray) (fun a b=> .mk 7 [] [a,b]) f (tk.length+1) (f s).1 (f s).2
def dcnd (f:PS→CT×PS)(s:PS):CT×PS:=dbin tk (⟨#[124,124]⟩:ByteArray) (fun a b=> .mk 8 [] [a,b]) (dall tk f) (tk.length+1) (dall tk f s).1 (dall tk f s).2
def done:Nat→PS→CT×PS
 | 0,s=>(default,s)
 | n+1,s=>
   if dnx tk s=(⟨#[33]⟩:ByteArray) then
    let c:=done n (dbegin tk en (⟨#[33]⟩:ByteArray) s)
    (.mk 6 [] [c.1],pup c.2)
   else if dnx tk s=(⟨#[91]⟩:ByteArray) then
    let c:=dcnd tk (done n) (dbegin tk en (⟨#[91]⟩:ByteArray) s)
    (c.1,dfin tk en (⟨#[93]⟩:ByteArray) c.2)
   else if dnx tk s=(⟨#[116,114,117,101]⟩:ByteArray) then(.mk 0 [] [],pgo s)
   else if dnx tk s=(⟨#[102,97,108,115,101]⟩:ByteArray) then(.mk 1 [] [],pgo s)
   else dcmp tk en s
def dco (s:PS):CT×PS:=dcnd tk (done tk en 53) s
def daccA (pts:Bool)(s:PS):AT×PS:=
 let e:=dex tk en (deat tk en (⟨#[40]⟩:ByteArray) (pgo s))
 let f:=dtext tk en 1 (deat tk en (⟨#[46]⟩:ByteArray) e.2)
 let n:=dnum tk en (deat tk en (⟨#[44]⟩:ByteArray) f.2)
 let v:=if pts then dex tk en (deat tk en (⟨#[44]⟩:ByteArray) n.2) else(default,n.2)
 (.mk (if pts then 3 else 2) default e.1 v.1 f.1 n.1 [],deat tk en (⟨#[41]⟩:ByteArray) v.2)
def dassn (f:PS→AT×PS)(s:PS):AT×PS:=dbin tk (⟨#[38]⟩:ByteArray) (fun a b=> .mk 4 default default default (⟨#[]⟩:ByteArray) 0 [a,b]) f (tk.length+1) (f s).1 (f s).2
def difA (f:PS→AT×PS)(s:PS):AT×PS:=
 let c:=dco tk en (pgo s)
 let x:=dassn tk f (dbegin tk en (⟨#[123]⟩:ByteArray) c.2)
 let y:=dassn tk f (dbegin tk en (⟨#[123]⟩:ByteArray) (deat tk en (⟨#[101,108,115,101]⟩:ByteArray) (dfin tk en (⟨#[125]⟩:ByteArray) x.2)))
 (.mk 5 c.1 default default (⟨#[]⟩:ByteArray) 0 [x.1,y.1],dfin tk en (⟨#[125]⟩:ByteArray) y.2)
def ditem:Nat→PS→AT×PS
 | 0,s=>(default,s)
 | n+1,s=>
   if dnx tk s=(⟨#[101,109,112]⟩:ByteArray) then(default,pgo s)
   else if dnx tk s=(⟨#[91]⟩:ByteArray) then
    let c:=dco tk en (dbegin tk en (⟨#[91]⟩:ByteArray) s)
    (.mk 1 c.1 default default (⟨#[]⟩:ByteArray) 0 [],dfin tk en (⟨#[93]⟩:ByteArray) c.2)
   else if dnx tk s=(⟨#[97,99,99]⟩:ByteArray) then daccA tk en false s
   else if dnx tk s=(⟨#[112,116,115]⟩:ByteArray) then daccA tk en true s
   else if dnx tk s=(⟨#[105,102]⟩:ByteArray) then difA tk en (ditem n) s
   else if dnx tk s=(⟨#[40]⟩:ByteArray) then
    let a:=dassn tk (ditem n) (dbegin tk en (⟨#[40]⟩:ByteArray) s)
    (a.1,dfin tk en (⟨#[41]⟩:ByteArray) a.2)
   else(default,pfail tk en 11 s)
def das (s:PS):AT×PS:=dassn tk (ditem tk en 53) s
def dcell (p:SP)(s:PS):SP×PS:=
 let e:=dex tk en s
 let f:=dtext tk en 1 (deat tk en (⟨#[46]⟩:ByteArray) e.2)
 ({ p with e:=e.1,field:=f.1 },f.2)
def dcall (p:SP)(s:PS):SP×PS:=
 let c:=dtext tk en 1 (deat tk en (⟨#[99,97,108,108]⟩:ByteArray) s)
 let a:=dexprs tk (dex tk en) (⟨#[59]⟩:ByteArray) (deat tk en (⟨#[40]⟩:ByteArray) c.2)
 let g:=dexprs tk (dex tk en) (⟨#[41]⟩:ByteArray) (deat tk en (⟨#[59]⟩:ByteArray) a.2)
 ({ p with kind:=9,callee:=c.1,args:=a.1,ghosts:=g.1 },deat tk en (⟨#[41]⟩:ByteArray) g.2)
def dwhat (p:SP)(s:PS):SP×PS:=
 if dnx tk s=(⟨#[103,101,116]⟩:ByteArray) then dcell tk en { p with kind:=2 } (pgo s)
 else if dnx tk s=(⟨#[110,101,119]⟩:ByteArray) then
  let f:=dnames tk en true (deat tk en (⟨#[40]⟩:ByteArray) (pgo s))
  ({ p with kind:=4,fields:=f.1 },deat tk en (⟨#[41]⟩:ByteArray) f.2)
 else if dnx tk s=(⟨#[99,97,108,108]⟩:ByteArray) then dcall tk en { p with kind:=1 } s
 else({ p with kind:=1,e:=(dex tk en s).1 },(dex tk en s).2)
def dsimple (s:PS):SP×PS:=
 if dnx tk s=(⟨#[115,107,105,112]⟩:ByteArray) then(sp0,pgo s)
 else if dnx tk s=(⟨#[112,117,116]⟩:ByteArray) then
  let c:=dcell tk en { sp0 with kind:=3 } (pgo s)
  let v:=dex tk en (deat tk en (⟨#[58,61]⟩:ByteArray) c.2)
  ({ c.1 with v:=v.1 },v.2)
 else if dnx tk s=(⟨#[102,114,101,101]⟩:ByteArray) then dcell tk en { sp0 with kind:=5 } (pgo s)
 else if dnx tk s=(⟨#[97,115,115,101,114,116]⟩:ByteArray) then({ sp0 with kind:=8,c:=(dco tk en (pgo s)).1 },(dco tk en (pgo s)).2)
 else if dnx tk s=(⟨#[99,97,108,108]⟩:ByteArray) then dcall tk en sp0 s
 else(sp0,pfail tk en 11 s)
def dstmts (f:PS→ST×PS):Nat→List ST→PS→List ST×PS
 | 0,l,s=>(l,s)
 | k+1,l,s=>if s.er=none∧dnx tk s≠(⟨#[125]⟩:ByteArray) then dstmts f k (l ++ [(f s).1]) (f s).2 else(l,s)
def dblock (f:PS→ST×PS)(s:PS):List ST×PS:=
 let r:=dstmts tk f (tk.length+2) [] (dbegin tk en (⟨#[123]⟩:ByteArray) s)
 (r.1,dfin tk en (⟨#[125]⟩:ByteArray) r.2)
def dstmt:Nat→PS→ST×PS
 | 0,s=>(default,s)
 | n+1,s=>
   if pkd tk s=1 then
    let x:=dtext tk en 1 s
    let p:=dwhat tk en { sp0 with name:=x.1 } (deat tk en (⟨#[58,61]⟩:ByteArray) x.2)
    (.mk p.1 [] [],deat tk en (⟨#[59]⟩:ByteArray) p.2)
   else if dnx tk s=(⟨#[105,102]⟩:ByteArray) then
    let c:=dco tk en (pgo s)
    let a:=dblock tk en (dstmt n) c.2
    let b:=dblock tk en (dstmt n) (deat tk en (⟨#[101,108,115,101]⟩:ByteArray) a.2)
    (.mk { sp0 with kind:=6,c:=c.1 } a.1 b.1,b.2)
   else if dnx tk s=(⟨#[119,104,105,108,101]⟩:ByteArray) then
    let c:=dco tk en (pgo s)
    let a:=das tk en (deat tk en (⟨#[105,110,118,97,114,105,97,110,116]⟩:ByteArray) c.2)
    let b:=dblock tk en (dstmt n) a.2
    (.mk { sp0 with kind:=7,c:=c.1,a:=a.1 } b.1 [],b.2)
   else(.mk (dsimple tk en s).1 [] [],deat tk en (⟨#[59]⟩:ByteArray) (dsimple tk en s).2)
def dbl (s:PS):List ST×PS:=dblock tk en (dstmt tk en 53) s
def dproc (s:PS):QT×PS:=
 let n:=dtext tk en 1 (deat tk en (⟨#[112,114,111,99]⟩:ByteArray) s)
 let a:=dnames tk en false (deat tk en (⟨#[40]⟩:ByteArray) n.2)
 let g:=dnames tk en false (deat tk en (⟨#[59]⟩:ByteArray) a.2)
 let p:=das tk en (deat tk en (⟨#[114,101,113,117,105,114,101,115]⟩:ByteArray) (deat tk en (⟨#[41]⟩:ByteArray) g.2))
 let q:=das tk en (deat tk en (⟨#[101,110,115,117,114,101,115]⟩:ByteArray) p.2)
 let b:=dbl tk en q.2
 (⟨n.1,a.1,g.1,p.1,q.1,b.1⟩,b.2)
def dprocs:Nat→List QT→PS→List QT×PS
 | 0,l,s=>(l,s)
 | k+1,l,s=>if s.er=none∧s.nx<tk.length then dprocs k (l ++ [(dproc tk en s).1]) (dproc tk en s).2 else(l,s)
end
def dprog (tk:List Tok)(en:Nat):Int×Int×List QT:=
 let r:=dprocs tk en (tk.length+1) [] ps0
 match r.2.er with
 | none=>(0, -1,r.1)
 | some (c,a)=>(c,a,[])
def dparse (s:ByteArray):Int×Int×List QT:=if(resOf s).1=0 then dprog (resOf s).2.2 s.size else((resOf s).1,(resOf s).2.1,[])
end
namespace Dc
open Go.RowKit
def ebad (s:PS):Int:=match s.er with
 | none=>0
 | some (c,_)=>c
structure PSt (C:PC)(s:PS)(w:World):Prop where
 c0:w.cell? ⟨C.g,0,none⟩=some (.slice C.a C.tk.length C.cap)
 c1:w.cell? ⟨C.g,1,none⟩=some (.int .i64 C.en)
 c2:∃v:Int,w.cell? ⟨C.g,2,none⟩=some (.int .i64 v)∧(s.er=none→v=s.nx)
 c3:∃v:Int,w.cell? ⟨C.g,3,none⟩=some (.int .i64 v)∧(s.er=none→v=s.ne)
 c4:w.cell? ⟨C.g,4,none⟩=some (.int .i64 (ebad s))
 c5:∃v:Int,w.cell? ⟨C.g,5,none⟩=some (.int .i64 v)∧(∀c a,s.er=some (c,a)→v=a)
 fr:∀j,w.frozen? ⟨C.g,j,none⟩=false
 tl:TLies C.g w C.a C.tk
 len:C.tk.length≤65536∧C.en≤65536
 inv:s.er=none→0≤s.ne∧s.ne≤50∧s.nx≤C.tk.length
 eo:∀c a,s.er=some (c,a)→c≠0
 small:∀t∈C.tk,t.text.size≤65536∧(t.kind=3→valD t.text.data.toList 0≤1073741824∧allD t.text.data.toList∧t.text.data.toList≠[])
 sh:∀t∈C.tk,Shape t.kind t.text.data.toList
 g5:5<C.g
section
variable {C:PC} {s s':PS} {w w':World}
theorem PSt.lt (h:PSt C s w):C.g<w.heap.size:=block_lt_of_cell (a:=⟨C.g,0,none⟩) h.c0
theorem PSt.bad (h:PSt C s w):(s.er=none∧ebad s=0)∨(s.er≠none∧ebad s≠0):=by
 have ho:=h.eo
 unfold ebad
 cases e:s.er with
 | none=>exact .inl ⟨rfl,rfl⟩
 | some p=>
   obtain⟨c,a⟩:=p
   exact .inr ⟨fun e=>(by cases e),ho c a e⟩
theorem PSt.two (h:PSt C s w)(h0:s.er=none):w.cell? ⟨C.g,2,none⟩=some (.int .i64 s.nx):=by
 obtain⟨v,e,hv⟩:=h.c2
 rw[e,hv h0]
theorem PSt.three (h:PSt C s w)(h0:s.er=none):w.cell? ⟨C.g,3,none⟩=some (.int .i64 s.ne):=by
 obtain⟨v,e,hv⟩:=h.c3
 rw[e,hv h0]
theorem PSt.below (h:PSt C s w)(hg:C.g<w.heap.size)(hk:∀j,w'.cell? ⟨C.g,j,none⟩=w.cell? ⟨C.g,j,none⟩)(hf:∀j,w'.frozen? ⟨C.g,j,none⟩=w.frozen? ⟨C.g,j,none⟩)(hb:Below C.g w w'):PSt C s w':=by
 obtain⟨v2,e2,k2⟩:=h.c2
 obtain⟨v3,e3,k3⟩:=h.c3
 obtain⟨v5,e5,k5⟩:=h.c5
 exact⟨(hk 0).trans h.c0,(hk 1).trans h.c1,⟨v2,(hk 2).trans e2,k2⟩,⟨v3,(hk 3).trans e3,k3⟩,(hk 4).trans h.c4,⟨v5,(hk 5).trans e5,k5⟩,fun j=>(hf j).trans (h.fr j),h.tl.below hb,h.len,h.inv,h.eo,h.small,h.sh,h.g5⟩
theorem PSt.up (h:PSt C s w)(hb:Below w.heap.size w w'):PSt C s w':=
 h.below h.lt (fun j=>hb.cell (p:=⟨C.g,j,none⟩) h.lt) (fun j=>hb.frozen (p:=⟨C.g,j,none⟩) h.lt) (hb.mono (Nat.le_of_lt h.lt))
theorem PSt.alloc (h:PSt C s w)(o:Obj):PSt C s (w.alloc o):=h.up ((Below.refl _ _).alloc (Nat.le_refl _) _)
theorem PSt.far {b:Nat}(k:PSt C s w)(f:Far b w w')(hg:C.g<b)(hz:∀t u,w.cell? ⟨b,1,none⟩≠some (.iface t u))(hl:5<C.g):PSt C s w':=
 k.below k.lt (fun j=>World.cell?_of_block (f.block _ (by show C.g≠b;omega))) (fun j=>World.frozen?_of_block (f.block _ (by show C.g≠b;omega))) ⟨f.os,f.tape,f.output,Nat.le_of_eq f.size.symm,fun q hq=>f.block q (by omega)⟩
theorem PSt.set2 (h:PSt C s w)(s':PS)(hs:s'.ne=s.ne∧s'.er=s.er)(v:Int)(hv:s.er=none→v=s'.nx∧s'.nx≤C.tk.length):PSt C s' (w.setCell ⟨C.g,2,none⟩ (.int .i64 v)):=by
 have ho:∀j,j≠2→(w.setCell ⟨C.g,2,none⟩ (.int .i64 v)).cell? ⟨C.g,j,none⟩=w.cell? ⟨C.g,j,none⟩:=fun j hj=>World.cell?_setCell_other _ _ _ _ (fun e=>hj (by cases e;rfl))
 have hb:Below C.g w (w.setCell ⟨C.g,2,none⟩ (.int .i64 v)):=KeptG.below KeptG.set (Nat.le_refl _) (Nat.le_of_lt h.lt)
 obtain⟨v2,e2,k2⟩:=h.c2
 obtain⟨v3,e3,k3⟩:=h.c3
 obtain⟨v5,e5,k5⟩:=h.c5
 exact⟨(ho 0 (by decide)).trans h.c0,(ho 1 (by decide)).trans h.c1,⟨v,World.cell?_setCell_same' _ _ _ (by rw[e2];rfl),fun e=>(hv (by rw[←hs.2];exact e)).1⟩,⟨v3,(ho 3 (by decide)).trans e3,fun e=>by rw[hs.1];exact k3 (by rw[←hs.2];exact e)⟩,(ho 4 (by decide)).trans (by have:=h.c4;unfold ebad at this⊢;rw[hs.2];exact this),⟨v5,(ho 5 (by decide)).trans e5,by rw[hs.2];exact k5⟩,fun j=>by rw[World.frozen?_setCell];exact h.fr j,h.tl.below hb,h.len,fun e=>by rw[hs.2]at e;rw[hs.1];exact⟨(h.inv e).1,(h.inv e).2.1,(hv e).2⟩,by rw[hs.2];exact h.eo,h.small,h.sh,h.g5⟩
theorem PSt.set3 (h:PSt C s w)(s':PS)(hs:s'.nx=s.nx∧s'.er=s.er)(v:Int)(hv:s.er=none→v=s'.ne∧0≤s'.ne∧s'.ne≤50):PSt C s' (w.setCell ⟨C.g,3,none⟩ (.int .i64 v)):=by
 have ho:∀j,j≠3→(w.setCell ⟨C.g,3,none⟩ (.int .i64 v)).cell? ⟨C.g,j,none⟩=w.cell? ⟨C.g,j,none⟩:=fun j hj=>World.cell?_setCell_other _ _ _ _ (fun e=>hj (by cases e;rfl))
 have hb:Below C.g w (w.setCell ⟨C.g,3,none⟩ (.int .i64 v)):=KeptG.below KeptG.set (Nat.le_refl _) (Nat.le_of_lt h.lt)
 obtain⟨v2,e2,k2⟩:=h.c2
 obtain⟨v3,e3,k3⟩:=h.c3
 obtain⟨v5,e5,k5⟩:=h.c5
 exact⟨(ho 0 (by decide)).trans h.c0,(ho 1 (by decide)).trans h.c1,⟨v2,(ho 2 (by decide)).trans e2,fun e=>by rw[hs.1];exact k2 (by rw[←hs.2];exact e)⟩,⟨v,World.cell?_setCell_same' _ _ _ (by rw[e3];rfl),fun e=>(hv (by rw[←hs.2];exact e)).1⟩,(ho 4 (by decide)).trans (by have:=h.c4;unfold ebad at this⊢;rw[hs.2];exact this),⟨v5,(ho 5 (by decide)).trans e5,by rw[hs.2];exact k5⟩,fun j=>by rw[World.frozen?_setCell];exact h.fr j,h.tl.below hb,h.len,fun e=>by rw[hs.2]at e;rw[hs.1];exact⟨(hv e).2.1,(hv e).2.2,(h.inv e).2.2⟩,by rw[hs.2];exact h.eo,h.small,h.sh,h.g5⟩
theorem PSt.amiss (h:PSt C s w)(c a:Int)(hc:c≠0)(h0:s.er=none)(hk:∀j,j≠4→j≠5→w'.cell? ⟨C.g,j,none⟩=w.cell? ⟨C.g,j,none⟩)(hk4:w'.cell? ⟨C.g,4,none⟩=some (.int .i64 c))(hk5:w'.cell? ⟨C.g,5,none⟩=some (.int .i64 a))(hf:∀j,w'.frozen? ⟨C.g,j,none⟩=w.frozen? ⟨C.g,j,none⟩)(hb:Below C.g w w'):PSt C ⟨s.nx,s.ne,some (c,a)⟩ w':=by
 obtain⟨v2,e2,k2⟩:=h.c2
 obtain⟨v3,e3,k3⟩:=h.c3
 exact⟨(hk 0 (by decide) (by decide)).trans h.c0,(hk 1 (by decide) (by decide)).trans h.c1,⟨v2,(hk 2 (by decide) (by decide)).trans e2,fun e=>(by cases e)⟩,⟨v3,(hk 3 (by decide) (by decide)).trans e3,fun e=>(by cases e)⟩,hk4,⟨a,hk5,fun c' a' e=>(by cases e;rfl)⟩,fun j=>(hf j).trans (h.fr j),h.tl.below hb,h.len,fun e=>(by cases e),fun c' a' e=>(by cases e;exact hc),h.small,h.sh,h.g5⟩
end
def PE {α:Type}(V:World→World→Value→α→Prop)(f:PS→α×PS)(C:PC)(s:PS)(w:World)(e:Ending)(w':World):Prop:=
 ∃v,e= .returned v∧V w w' v (f s).1∧PSt C (f s).2 w'∧KeptG C.g w w'
def PU (f:PS→PS)(C:PC)(s:PS)(w:World)(e:Ending)(w':World):Prop:=e= .returned (.tuple #[])∧PSt C (f s) w'∧KeptG C.g w w'
theorem tok_at {C:PC}{s:PS}{w:World}(h:PSt C s w){i:Nat}(hi:i<C.tk.length):∃b off,C.a=some ⟨b,off,none⟩∧w.cell? ⟨b,off+i*3,none⟩=some (.int .i64 (C.tk.getD i tok0).kind)∧w.cell? ⟨b,off+i*3+1,none⟩=some (.int .i64 ((C.tk.getD i tok0).at':Int))∧w.cell? ⟨b,off+i*3+2,none⟩=some (.string (C.tk.getD i tok0).text)∧b≠C.g:=by
 obtain⟨b,off,e,hb,h1,h2,h3⟩:=h.tl i hi
 exact⟨b,off,e,h1,h2,h3,by omega⟩
theorem kind_any (C:PC)(s:PS)(w:World)(h:PSt C s w):
 Calls Tryz.prog 66 #[C.p] w fun e w'=>e= .returned (.int .i64 (pkd C.tk s))∧Below w.heap.size w w':=by
 have c4:=h.c4
 have c0:=h.c0
 have hlen:=h.len.1
 unfold PC.p
 rcases h.bad with ⟨he,hz⟩ | ⟨he,hz⟩
 ·have c2:=h.two he
  have hnx:=(h.inv he).2.2
  rw[hz]at c4
  by_cases hlt:s.nx<C.tk.length
  ·obtain⟨b,off,ha,t0,_,t2,_⟩:=tok_at h hlt
   have e:pkd C.tk s=(C.tk.getD s.nx tok0).kind:=if_pos ⟨he,hlt⟩
   rw[e]
   generalize (C.tk.getD s.nx tok0).kind=kd at t0
   have hb1:decide ((s.nx:Int) ≥ (C.tk.length:Int))=false:=decide_eq_false (by omega)
   have hb2:(0:Int)≤(s.nx:Int)∧(s.nx:Int)<(C.tk.length:Int):=by omega
   rw[ha]at c0
   clear h ha hz e
   generalize C.tk.length=L at*
   go_enter Tryz.func66,Tryz.ntmps66
   go_wp2_with fail
   go_quiet (fail)
   go_wp2_with fail
   go_quiet (fail)
   go_wp2_with fail
   go_ret
   exact⟨rfl,⟨rfl,rfl,rfl,Nat.le_refl _,fun _ _=>rfl⟩⟩
  ·have e:pkd C.tk s=0:=if_neg fun h=>hlt h.2
   rw[e]
   have hb1:decide ((s.nx:Int) ≥ (C.tk.length:Int))=true:=decide_eq_true (by omega)
   clear h hz e
   generalize C.tk.length=L at*
   go_enter Tryz.func66,Tryz.ntmps66
   go_wp2_with fail
   go_quiet (fail)
   go_wp2_with fail
   go_ret
   exact⟨rfl,⟨rfl,rfl,rfl,Nat.le_refl _,fun _ _=>rfl⟩⟩
 ·have e:pkd C.tk s=0:=if_neg fun h=>he h.1
  rw[e]
  have hb0:(ebad s != 0)=true:=by simpa using hz
  clear h e
  generalize ebad s=z at*
  go_enter Tryz.func66,Tryz.ntmps66
  go_wp2_with fail
  go_quiet (fail)
  go_wp2_with fail
  go_ret
  exact⟨rfl,⟨rfl,rfl,rfl,Nat.le_refl _,fun _ _=>rfl⟩⟩
end Dc
end Go.Proofs.YtcinokljkieijaaGreatDoor
