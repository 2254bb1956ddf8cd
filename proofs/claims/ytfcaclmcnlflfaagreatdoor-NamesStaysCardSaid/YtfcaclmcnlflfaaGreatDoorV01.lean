/- Parts of a proof. -/
import Derived.Test.YtfcaclmcnlflfaaGreatDoorQ10
import Derived.Test.YtfcaclmcnlflfaaGreatDoorQ17
import Derived.Test.YtfcaclmcnlflfaaGreatDoorQ08
import Derived.Test.YtfcaclmcnlflfaaGreatDoorQ13
import Derived.Test.YtfcaclmcnlflfaaGreatDoorQ11
set_option linter.unusedVariables false
set_option linter.unusedSimpArgs false
set_option maxHeartbeats 60000000
set_option maxRecDepth 100000
namespace Go.Proofs.YtfcaclmcnlflfaaGreatDoor
section
open Go.RowKit
def dgC (k:Nat):ByteArray:=(⟨#[48,49,50,51,52,53,54,55,56,57]⟩:ByteArray).extract k (k+1)
def dgN:Nat→Nat→ByteArray
 | 0,_=>⟨#[]⟩
 | f+1,k=>if k<10 then dgC k else dgN f (k / 10) ++ dgC (k % 10)
def dgI (n:Int):ByteArray:=if n<0 then⟨#[45,32]⟩ ++ dgN 10 n.natAbs else dgN 10 n.natAbs
def brk (x:ByteArray):ByteArray:=⟨#[40,32]⟩ ++ x ++ ⟨#[32,41]⟩
def sqr (x:ByteArray):ByteArray:=⟨#[91,32]⟩ ++ x ++ ⟨#[32,93]⟩
def sumK (k:Int):Bool:=decide (k=2∨k=3)
def txE:Nat→ET→ByteArray
 | 0,_=>⟨#[]⟩
 | n+1,e=>
   let ins:=fun x:ET=>bif sumK x.kind then brk (txE n x) else txE n x
   if e.kind=0 then dgI e.n
   else if e.kind=1 then e.name
   else if e.kind=4 then dgI e.n ++ ⟨#[32,42,32]⟩ ++ ins (e.ks.getD 0 default)
   else txE n (e.ks.getD 0 default) ++ (if e.kind=3 then⟨#[32,45,32]⟩ else⟨#[32,43,32]⟩) ++ ins (e.ks.getD 1 default)
def inE (n:Nat)(x:ET):ByteArray:=bif sumK x.kind then brk (txE n x) else txE n x
theorem txE_succ (n:Nat)(e:ET):txE (n+1) e=if e.kind=0 then dgI e.n
 else if e.kind=1 then e.name
 else if e.kind=4 then dgI e.n ++ ⟨#[32,42,32]⟩ ++ inE n (e.ks.getD 0 default)
 else txE n (e.ks.getD 0 default) ++ (if e.kind=3 then⟨#[32,45,32]⟩ else⟨#[32,43,32]⟩) ++ inE n (e.ks.getD 1 default):=rfl
def opC (k:Int):ByteArray:=if k=3 then⟨#[32,33,61,32]⟩ else if k=4 then⟨#[32,60,32]⟩ else if k=5 then⟨#[32,60,61,32]⟩ else⟨#[32,61,61,32]⟩
def orK (k:Int):Bool:=decide (k=8)
def rowK (k:Int):Bool:=decide (k=7∨k=8)
def bxd (b:Bool)(x:ByteArray):ByteArray:=bif b then sqr x else x
def txC:Nat→CT→ByteArray
 | 0,_=>⟨#[]⟩
 | n+1,c=>
   if c.kind=0 then⟨#[116,114,117,101]⟩
   else if c.kind=1 then⟨#[102,97,108,115,101]⟩
   else if c.kind=6 then⟨#[33,32]⟩ ++ bxd (rowK (c.ks.getD 0 default).kind) (txC n (c.ks.getD 0 default))
   else if c.kind=7 then bxd (orK (c.ks.getD 0 default).kind) (txC n (c.ks.getD 0 default)) ++ ⟨#[32,38,38,32]⟩ ++ bxd (rowK (c.ks.getD 1 default).kind) (txC n (c.ks.getD 1 default))
   else if c.kind=8 then txC n (c.ks.getD 0 default) ++ ⟨#[32,124,124,32]⟩ ++ bxd (orK (c.ks.getD 1 default).kind) (txC n (c.ks.getD 1 default))
   else txE n (c.es.getD 0 default) ++ opC c.kind ++ txE n (c.es.getD 1 default)
def txA:Nat→AT→ByteArray
 | 0,_=>⟨#[]⟩
 | n+1,a=>
   if a.kind=0 then⟨#[101,109,112]⟩
   else if a.kind=1 then sqr (txC n a.c)
   else if a.kind=2 then⟨#[97,99,99,32,40,32]⟩ ++ txE n a.e ++ ⟨#[32,46,32]⟩ ++ a.field ++ ⟨#[32,44,32]⟩ ++ dgI a.n ++ ⟨#[32,41]⟩
   else if a.kind=3 then⟨#[112,116,115,32,40,32]⟩ ++ txE n a.e ++ ⟨#[32,46,32]⟩ ++ a.field ++ ⟨#[32,44,32]⟩ ++ dgI a.n ++ ⟨#[32,44,32]⟩ ++ txE n a.v ++ ⟨#[32,41]⟩
   else if a.kind=4 then txA n (a.ks.getD 0 default) ++ ⟨#[32,38,32]⟩ ++ (if(a.ks.getD 1 default).kind=4 then brk (txA n (a.ks.getD 1 default)) else txA n (a.ks.getD 1 default))
   else⟨#[105,102,32]⟩ ++ txC n a.c ++ ⟨#[32,123,32]⟩ ++ txA n (a.ks.getD 0 default) ++ ⟨#[32,125,32,101,108,115,101,32,123,32]⟩ ++ txA n (a.ks.getD 1 default) ++ ⟨#[32,125]⟩
def txR (l:List ByteArray):Nat→ByteArray
 | 0=>⟨#[]⟩
 | k+1=>(if 0<k then txR l k ++ ⟨#[44,32]⟩ else txR l k) ++ l.getD k ⟨#[]⟩ ++ ⟨#[32]⟩
def txRow (l:List ByteArray):ByteArray:=txR l l.length
def txB (f:ST→ByteArray)(l:List ST):Nat→ByteArray
 | 0=>⟨#[123,32]⟩
 | k+1=>txB f l k ++ f (l.getD k default) ++ ⟨#[32]⟩
def txBlk (f:ST→ByteArray)(l:List ST):ByteArray:=txB f l l.length ++ ⟨#[125]⟩
def txN (s:ByteArray):ByteArray:=if s=⟨#[]⟩ then⟨#[]⟩ else s ++ ⟨#[32,58,61,32]⟩
def txP (n:Nat)(p:SP):ByteArray:=txE n p.e ++ ⟨#[32,46,32]⟩ ++ p.field
def txS:Nat→ST→ByteArray
 | 0,_=>⟨#[]⟩
 | n+1,s=>
   if s.p.kind=0 then⟨#[115,107,105,112,32,59]⟩
   else if s.p.kind=1 then txN s.p.name ++ txE n s.p.e ++ ⟨#[32,59]⟩
   else if s.p.kind=2 then txN s.p.name ++ ⟨#[103,101,116,32]⟩ ++ txP n s.p ++ ⟨#[32,59]⟩
   else if s.p.kind=3 then⟨#[112,117,116,32]⟩ ++ txP n s.p ++ ⟨#[32,58,61,32]⟩ ++ txE n s.p.v ++ ⟨#[32,59]⟩
   else if s.p.kind=4 then txN s.p.name ++ ⟨#[110,101,119,32,40,32]⟩ ++ txRow s.p.fields ++ ⟨#[41,32,59]⟩
   else if s.p.kind=5 then⟨#[102,114,101,101,32]⟩ ++ txP n s.p ++ ⟨#[32,59]⟩
   else if s.p.kind=6 then⟨#[105,102,32]⟩ ++ txC n s.p.c ++ ⟨#[32]⟩ ++ txBlk (txS n) s.body ++ ⟨#[32,101,108,115,101,32]⟩ ++ txBlk (txS n) s.els
   else if s.p.kind=7 then⟨#[119,104,105,108,101,32]⟩ ++ txC n s.p.c ++ ⟨#[32,105,110,118,97,114,105,97,110,116,32]⟩ ++ txA n s.p.a ++ ⟨#[32]⟩ ++ txBlk (txS n) s.body
   else if s.p.kind=8 then⟨#[97,115,115,101,114,116,32]⟩ ++ txC n s.p.c ++ ⟨#[32,59]⟩
   else txN s.p.name ++ ⟨#[99,97,108,108,32]⟩ ++ s.p.callee ++ ⟨#[32,40,32]⟩ ++ txRow (s.p.args.map (txE n)) ++ ⟨#[59,32]⟩ ++ txRow (s.p.ghosts.map (txE n)) ++ ⟨#[41,32,59]⟩
theorem size_app (a b:ByteArray):(a ++ b).size=a.size+b.size:=ByteArray.size_append
theorem size_lit (a:Array UInt8):(⟨a⟩:ByteArray).size=a.size:=rfl
theorem dgC_le (k:Nat):(dgC k).size≤1:=by
 unfold dgC
 rw[ByteArray.size_extract]
 omega
theorem dgN_le:∀f k,(dgN f k).size≤f
 | 0,_=>by simp[dgN,size_lit]
 | f+1,k=>by
   unfold dgN
   split
   ·have:=dgC_le k;omega
   ·rw[size_app]
    have:=dgN_le f (k / 10)
    have:=dgC_le (k % 10)
    omega
theorem dgI_le (n:Int):(dgI n).size≤12:=by
 unfold dgI
 have:=dgN_le 10 n.natAbs
 split
 ·simp only[size_app,size_lit,List.size_toArray,List.length_cons,List.length_nil];omega
 ·omega
theorem brk_size (x:ByteArray):(brk x).size=x.size+4:=by
 unfold brk
 simp only[size_app,size_lit,List.size_toArray,List.length_cons,List.length_nil];omega
theorem sqr_size (x:ByteArray):(sqr x).size=x.size+4:=by
 unfold sqr
 simp only[size_app,size_lit,List.size_toArray,List.length_cons,List.length_nil];omega
theorem bxd_le (b:Bool)(x:ByteArray):(bxd b x).size≤x.size+4:=by
 unfold bxd
 cases b
 ·simp
 ·simp[sqr_size]
theorem inE_le (n:Nat)(x:ET):(inE n x).size≤(txE n x).size+4:=by
 unfold inE
 cases sumK x.kind
 ·simp
 ·simp[brk_size]
theorem snE_inv {nm:ByteArray→Bool}{n:Nat}{e:ET}(h:snE nm (n+1) e=true):(0≤e.kind∧e.kind≤4)∧e.ks.length=kidsE e.kind∧(∀x∈e.ks,snE nm n x=true)∧(e.kind=1→nm e.name=true)∧(e.kind=0∨e.kind=4→inB e.n=true):=by
 unfold snE at h
 split at h
 ·rename_i h1
  simp only[Bool.and_eq_true,beq_iff_eq]at h
  refine⟨by omega,by rw[h.2,h1];rfl,fun x hx=> ?_,fun _=>h.1.1,fun h0=>by omega⟩
  rw[List.length_eq_zero_iff.1 h.2]at hx
  cases hx
 ·rename_i h1
  split at h
  ·rename_i h2
   simp only[Bool.and_eq_true,beq_iff_eq,Bool.or_eq_true,List.all_eq_true]at h
   refine⟨h2,h.1.2,h.2,fun h0=>absurd h0 h1,fun h0=> ?_⟩
   rcases h.1.1.1 with h3 | h3
   ·rw[h3];decide
   ·exact h3.2
  ·cases h
theorem pt_mem {n:Nat}{l:List ET}{x:ET}(h:x∈l):ptE n x≤ptEs n l:=by
 unfold ptEs
 induction l with
 | nil=>cases h
 | cons y l ih=>
   rw[List.map_cons,List.sum_cons]
   rcases List.mem_cons.1 h with rfl | h
   ·omega
   ·have:=ih h;omega
theorem list_one {T:Type}{l:List T}(h:l.length=1):∃x,l=[x]:=by
 match l,h with
 | [x],_=>exact⟨x,rfl⟩
theorem list_two {T:Type}{l:List T}(h:l.length=2):∃x y,l=[x,y]:=by
 match l,h with
 | [x,y],_=>exact⟨x,y,rfl⟩
theorem txE_le {nm:ByteArray→Bool}(hnm:∀s,nm s=true→s.size≤32):∀(n:Nat) (e:ET),snE nm n e=true→(txE n e).size≤64*ptE n e
 | 0,_,h=>by cases h
 | n+1,e,h=>by
   obtain⟨hk,hl,hks,h1,h4⟩:=snE_inv h
   have IH:=fun x hx=>txE_le hnm n x (hks x hx)
   rw[txE_succ,ptE_succ]
   split
   ·have:=dgI_le e.n;omega
   ·split
    ·rename_i a b
     have:=hnm _ (h1 b);omega
    ·split
     ·rename_i a b c
      rw[c]at hl
      obtain⟨x,hx⟩:=list_one hl
      rw[hx]at IH⊢
      have h2:=IH x (List.mem_singleton.2 rfl)
      have h3:=inE_le n x
      have h5:=dgI_le e.n
      rw[show[x].getD 0 default=x from rfl,show ptEs n [x]=ptE n x by simp[ptEs]]
      simp only[size_app,size_lit,List.size_toArray,List.length_cons,List.length_nil]
      omega
     ·rename_i a b c
      have hl2:e.ks.length=2:=by
       rw[hl,kidsE,if_pos (by omega)]
      obtain⟨x,y,hx⟩:=list_two hl2
      rw[hx]at IH⊢
      have h2:=IH x (by simp)
      have h3:=IH y (by simp)
      have h5:=inE_le n y
      rw[show[x,y].getD 0 default=x from rfl,show[x,y].getD 1 default=y from rfl,ptEs_two]
      split<;>(simp only[size_app,size_lit,List.size_toArray,List.length_cons,List.length_nil];omega)
end
section
open Go.RowKit
theorem run_part (s:ByteArray)(x y:Int)(a b:Nat)(hx:x=a)(hy:y=b)(h1:a≤b)(h2:b≤s.size)(W:World):
 (Instr.slice 9 (.string s) (some (.int .i64 x)) (some (.int .i64 y)) none).run Tryz.prog W= .ok (.string (s.extract a b)) W:=by
 subst hx hy
 rw[run_slice_string W 9 s .i64 .i64 (a:Int) (b:Int) Tryz.underlying9 (by omega) (by omega) (by omega)]
 simp
theorem digits_low (k:Nat)(h10:k<10)(w:World):ValAll 55 #[.int .i64 k] (.string (dgC k)) w:=fun W hW=>by
 have h0:¬((k:Int)<0):=by omega
 have h1:(k:Int)<10:=by omega
 have hs:=fun W=>run_part ⟨#[48,49,50,51,52,53,54,55,56,57]⟩ (k:Int) ((k:Int)+1) k (k+1) rfl rfl (by omega) (show k+1≤10 by omega) W
 have hw:IntKind.i64.wrap ((k:Int)+1)=(k:Int)+1:=IntWalk.i64_in _ (by omega)
 clear hW
 unfold dgC
 go_enter Tryz.func55,Tryz.ntmps55
 go_wp2_with fail
 go_ret
 exact⟨rfl,Below.refl _ _⟩
theorem digits_high (k:Nat)(D:ByteArray)(hk:k<10000000000)(h10:¬k<10)(hD:D.size≤100)(w:World)(hr:ValAll 55 #[.int .i64 (k / 10:Nat)] (.string D) w):ValAll 55 #[.int .i64 k] (.string (D ++ dgC (k % 10))) w:=fun W hW=>by
 have h0:¬((k:Int)<0):=by omega
 have h1:¬(k:Int)<10:=by omega
 have IH:=(hr.up hW).reg
 rw[show(((k / 10:Nat):Nat):Int)=(k:Int) / 10 by omega]at IH
 have hs:=fun W=>run_part ⟨#[48,49,50,51,52,53,54,55,56,57]⟩ ((k:Int) % 10) ((k:Int) % 10+1) (k % 10) (k % 10+1) (by omega) (by omega) (by omega) (show k % 10+1≤10 by omega) W
 have hw:IntKind.i64.wrap ((k:Int) % 10+1)=(k:Int) % 10+1:=IntWalk.i64_in _ (by omega)
 have hsz:¬(D.size+((⟨#[48,49,50,51,52,53,54,55,56,57]⟩:ByteArray).extract (k % 10) (k % 10+1)).size > 9223372036854775807):=by
  have h4:=dgC_le (k % 10)
  unfold dgC at h4
  omega
 clear hW hr
 unfold dgC
 go_enter Tryz.func55,Tryz.ntmps55
 go_wp2_with fail
 refine wp_region_quiet_below (by kernel_rfl) (by kernel_rfl) ?_
 repeat (first | (go_big_quiet_step (first | with_reducible exact IH _ _)))
 refine wpQuiet_nil ?_
 intro w9 hw'
 obtain⟨⟨dq,osq⟩,hw''⟩:=hw'
 have HB9:Hid (Below W.heap.size W w9):=Lib.hid (by rw[hw''];exact below_regrown _ dq osq)
 clear hw'' IH
 go_wp2_with fail
 go_ret
 exact⟨rfl,HB9.out⟩
theorem dgN_low {f k:Nat}(h:k<10):dgN (f+1) k=dgC k:=by rw[dgN,if_pos h]
theorem dgN_high {f k:Nat}(h:¬k<10):dgN (f+1) k=dgN f (k / 10) ++ dgC (k % 10):=by rw[dgN,if_neg h]
theorem digits_nat:∀(f k:Nat) (w:World),k<10 ^ (f+1)→f≤9→ValAll 55 #[.int .i64 k] (.string (dgN (f+1) k)) w
 | 0,k,w,h,_=>by
   have h10:k<10:=by omega
   rw[dgN_low h10]
   exact digits_low k h10 w
 | f+1,k,w,h,hf=>by
   have hb:k<10000000000:=Nat.lt_of_lt_of_le h (by
    have:10 ^ (f+1+1)≤10 ^ 10:=Nat.pow_le_pow_right (by decide) (by omega)
    omega)
   by_cases h10:k<10
   ·rw[dgN_low h10]
    exact digits_low k h10 w
   ·rw[dgN_high h10]
    exact digits_high k _ hb h10 (Nat.le_trans (dgN_le (f+1) (k / 10)) (by omega)) w (digits_nat f (k / 10) w (by rw[Nat.pow_succ]at h;omega) (by omega))
theorem digits_any (n:Int)(hn: -1073741824≤n∧n≤1073741824)(w:World):ValAll 55 #[.int .i64 n] (.string (dgI n)) w:=by
 unfold dgI
 by_cases h:n<0
 ·rw[if_pos h]
  have hc:=digits_nat 9 n.natAbs w (by omega) (Nat.le_refl _)
  have hw:IntKind.i64.wrap (-n)=(n.natAbs:Int):=by
   rw[IntWalk.i64_in _ (by omega)]
   omega
  intro W hW
  have IH:=Lib.hid (hc.up hW)
  have hsz:¬((⟨#[45,32]⟩:ByteArray).size+(dgN (9+1) n.natAbs).size > 9223372036854775807):=by
   have:(dgN (9+1) n.natAbs).size≤10:=dgN_le 10 n.natAbs
   simp only[size_lit,List.size_toArray,List.length_cons,List.length_nil]
   omega
  clear hc hW
  go_enter Tryz.func55,Tryz.ntmps55
  go_wp2_with fail
  refine(IH.out.at (Below.refl _ _)).mono ?_
  rintro e w1 ⟨rfl,hb⟩
  have HB:=Lib.hid hb
  clear hb IH
  go_wp2_with fail
  go_ret
  exact⟨rfl,HB.out⟩
 ·rw[if_neg h]
  have e:n=(n.natAbs:Int):=by omega
  have hc:=digits_nat 9 n.natAbs w (by omega) (Nat.le_refl _)
  rw[←e]at hc
  exact hc
end
section
open Go.RowKit
theorem textE_0 (m:Int)(s:ByteArray)(a:Option Addr)(l cap:Nat)(D:ByteArray)(w:World)(hd:ValAll 55 #[.int .i64 m] (.string D) w):
 Calls Tryz.prog 54 #[.agg #[.int .i64 0,.int .i64 m,.string s,.slice a l cap]] w fun r w'=>r= .returned (.string D)∧Below w.heap.size w w':=by
 have HA:Hid (Below w.heap.size w (w.alloc (.cells #[.int .i64 0,.int .i64 m,.string s,.slice a l cap] 37))):=box_low
 have HD:=Lib.hid (hd.up HA.out)
 clear hd
 go_enter Tryz.func54,Tryz.ntmps54
 go_wp2_with fail
 refine(HD.out.at (Below.refl _ _)).mono ?_
 rintro e w1 ⟨rfl,hb⟩
 have HB:=Lib.hid (HA.out.trans (hb.mono HA.out.size))
 clear hb HD
 go_wp2_with fail
 go_ret
 exact⟨rfl,HB.out⟩
theorem textE_1 (m:Int)(s:ByteArray)(a:Option Addr)(l cap:Nat)(w:World):
 Calls Tryz.prog 54 #[.agg #[.int .i64 1,.int .i64 m,.string s,.slice a l cap]] w fun r w'=>r= .returned (.string s)∧Below w.heap.size w w':=by
 have HA:Hid (Below w.heap.size w (w.alloc (.cells #[.int .i64 1,.int .i64 m,.string s,.slice a l cap] 37))):=box_low
 go_enter Tryz.func54,Tryz.ntmps54
 go_wp2_with fail
 go_ret
 exact⟨rfl,HA.out⟩
theorem textE_4 (m:Int)(s:ByteArray)(b off:Nat)(cap:Nat)(cs:List Value)(hl:cs.length=4)(D T:ByteArray)(hD:D.size≤1000000000)(hT:T.size≤1000000000)(w:World)
 (hc:∀i v,cs[i]? =some v→w.cell? ((⟨b,off,none⟩:Addr).add i)=some v) (hbl:b<w.heap.size)
 (hd:ValAll 55 #[.int .i64 m] (.string D) w) (hi:ValAll 94 #[.agg cs.toArray] (.string T) w):
 Calls Tryz.prog 54 #[.agg #[.int .i64 4,.int .i64 m,.string s,.slice (some ⟨b,off,none⟩) 1 cap]] w fun r w'=>r= .returned (.string (D ++ ⟨#[32,42,32]⟩ ++ T))∧Below w.heap.size w w':=by
 have HA:Hid (Below w.heap.size w (w.alloc (.cells #[.int .i64 4,.int .i64 m,.string s,.slice (some ⟨b,off,none⟩) 1 cap] 37))):=box_low
 have HD:=(hd.up HA.out).reg
 have HI:=(hi.up HA.out).reg
 have HC:Hid (∀W,Below (w.alloc (.cells #[.int .i64 4,.int .i64 m,.string s,.slice (some ⟨b,off,none⟩) 1 cap] 37)).heap.size (w.alloc (.cells #[.int .i64 4,.int .i64 m,.string s,.slice (some ⟨b,off,none⟩) 1 cap] 37)) W→∀i v,cs[i]? =some v→W.cell? ((⟨b,off,none⟩:Addr).add i)=some v):=Lib.hid fun W hW i v h=>((HA.out.trans (hW.mono HA.out.size)).cell (by unfold Addr.add;split<;>exact hbl)).trans (hc i v h)
 have c1:=fun d os=>cell_regrown ((Bx.start w [.int .i64 4,.int .i64 m,.string s,.slice (some ⟨b,off,none⟩) 1 cap] 37).at (o:=1) rfl) d os
 have c3:=fun d os=>cell_regrown ((Bx.start w [.int .i64 4,.int .i64 m,.string s,.slice (some ⟨b,off,none⟩) 1 cap] 37).at (o:=3) rfl) d os
 have HL:=Lib.hid hl
 have s1:¬(D.size+(⟨#[32,42,32]⟩:ByteArray).size > 9223372036854775807):=by
  simp only[size_lit,List.size_toArray,List.length_cons,List.length_nil];omega
 have s2:¬((D ++ ⟨#[32,42,32]⟩).size+T.size > 9223372036854775807):=by
  simp only[size_app,size_lit,List.size_toArray,List.length_cons,List.length_nil];omega
 clear hd hi hc hl hD hT
 go_enter Tryz.func54,Tryz.ntmps54
 go_wp2_with fail
 refine wp_region_quiet_below (by kernel_rfl) (by kernel_rfl) ?_
 repeat (first | (go_big_quiet_step (first | with_reducible exact HD _ _ | with_reducible exact HI _ _)) | (refine wpQuiet_load_c 37 _ rfl ⟨b,off,none⟩ rfl cs _ HC.out rfl Tryz.underlying37 rfl (by rw[HL.out];kernel_rfl) _ (by simp only[Act.put,List.setIfInBounds_toArray,List.set_cons_succ,List.set_cons_zero];rfl) ?_))
 refine wpQuiet_nil ?_
 intro w9 hw'
 obtain⟨⟨dq,osq⟩,hw''⟩:=hw'
 have HB9:Hid (Below w.heap.size w w9):=Lib.hid (by rw[hw''];exact HA.out.trans ((below_regrown _ dq osq).mono HA.out.size))
 clear hw'' HD HI c1 c3
 go_wp2_with fail
 go_ret
 exact⟨rfl,HB9.out⟩
theorem textE_2 (m:Int)(s:ByteArray)(b off:Nat)(cap:Nat)(cs ds:List Value)(hl:cs.length=4)(hl2:ds.length=4)(D T:ByteArray)(hD:D.size≤1000000000)(hT:T.size≤1000000000)(w:World)
 (hc:∀i v,cs[i]? =some v→w.cell? ((⟨b,off,none⟩:Addr).add i)=some v) (hc2:∀i v,ds[i]? =some v→w.cell? ((⟨b,off+4,none⟩:Addr).add i)=some v) (hbl:b<w.heap.size)
 (hd:ValAll 54 #[.agg cs.toArray] (.string D) w) (hi:ValAll 94 #[.agg ds.toArray] (.string T) w):
 Calls Tryz.prog 54 #[.agg #[.int .i64 2,.int .i64 m,.string s,.slice (some ⟨b,off,none⟩) 2 cap]] w fun r w'=>r= .returned (.string (D ++ ⟨#[32,43,32]⟩ ++ T))∧Below w.heap.size w w':=by
 have HA:Hid (Below w.heap.size w (w.alloc (.cells #[.int .i64 2,.int .i64 m,.string s,.slice (some ⟨b,off,none⟩) 2 cap] 37))):=box_low
 have HD:=(hd.up HA.out).reg
 have HI:=(hi.up HA.out).reg
 have HC:Hid (∀W,Below (w.alloc (.cells #[.int .i64 2,.int .i64 m,.string s,.slice (some ⟨b,off,none⟩) 2 cap] 37)).heap.size (w.alloc (.cells #[.int .i64 2,.int .i64 m,.string s,.slice (some ⟨b,off,none⟩) 2 cap] 37)) W→∀i v,cs[i]? =some v→W.cell? ((⟨b,off,none⟩:Addr).add i)=some v):=Lib.hid fun W hW i v h=>((HA.out.trans (hW.mono HA.out.size)).cell (by unfold Addr.add;split<;>exact hbl)).trans (hc i v h)
 have HC2:Hid (∀W,Below (w.alloc (.cells #[.int .i64 2,.int .i64 m,.string s,.slice (some ⟨b,off,none⟩) 2 cap] 37)).heap.size (w.alloc (.cells #[.int .i64 2,.int .i64 m,.string s,.slice (some ⟨b,off,none⟩) 2 cap] 37)) W→∀i v,ds[i]? =some v→W.cell? ((⟨b,off+4,none⟩:Addr).add i)=some v):=Lib.hid fun W hW i v h=>((HA.out.trans (hW.mono HA.out.size)).cell (by unfold Addr.add;split<;>exact hbl)).trans (hc2 i v h)
 have c3:=fun d os=>cell_regrown ((Bx.start w [.int .i64 2,.int .i64 m,.string s,.slice (some ⟨b,off,none⟩) 2 cap] 37).at (o:=3) rfl) d os
 have HL:=Lib.hid hl
 have HL2:=Lib.hid hl2
 have s1:¬(D.size+(⟨#[32,43,32]⟩:ByteArray).size > 9223372036854775807):=by
  simp only[size_lit,List.size_toArray,List.length_cons,List.length_nil];omega
 have s2:¬((D ++ ⟨#[32,43,32]⟩).size+T.size > 9223372036854775807):=by
  simp only[size_app,size_lit,List.size_toArray,List.length_cons,List.length_nil];omega
 clear hd hi hc hc2 hl hl2 hD hT
 go_enter Tryz.func54,Tryz.ntmps54
 go_wp2_with fail
 refine wp_region_quiet_below (by kernel_rfl) (by kernel_rfl) ?_
 repeat (first | (go_big_quiet_step (first | with_reducible exact HD _ _ | with_reducible exact HI _ _)) | (refine wpQuiet_load_c 37 _ rfl ⟨b,off,none⟩ rfl cs _ HC.out rfl Tryz.underlying37 rfl (by rw[HL.out];kernel_rfl) _ (by simp only[Act.put,List.setIfInBounds_toArray,List.set_cons_succ,List.set_cons_zero];rfl) ?_) | (refine wpQuiet_load_c 37 _ rfl ⟨b,off+4,none⟩ rfl ds _ HC2.out rfl Tryz.underlying37 rfl (by rw[HL2.out];kernel_rfl) _ (by simp only[Act.put,List.setIfInBounds_toArray,List.set_cons_succ,List.set_cons_zero];rfl) ?_))
 refine wpQuiet_nil ?_
 intro w9 hw'
 obtain⟨⟨dq,osq⟩,hw''⟩:=hw'
 have HB9:Hid (Below w.heap.size w w9):=Lib.hid (by rw[hw''];exact HA.out.trans ((below_regrown _ dq osq).mono HA.out.size))
 clear hw'' HD HI c3
 go_wp2_with fail
 go_ret
 exact⟨rfl,HB9.out⟩
theorem textE_3 (m:Int)(s:ByteArray)(b off:Nat)(cap:Nat)(cs ds:List Value)(hl:cs.length=4)(hl2:ds.length=4)(D T:ByteArray)(hD:D.size≤1000000000)(hT:T.size≤1000000000)(w:World)
 (hc:∀i v,cs[i]? =some v→w.cell? ((⟨b,off,none⟩:Addr).add i)=some v) (hc2:∀i v,ds[i]? =some v→w.cell? ((⟨b,off+4,none⟩:Addr).add i)=some v) (hbl:b<w.heap.size)
 (hd:ValAll 54 #[.agg cs.toArray] (.string D) w) (hi:ValAll 94 #[.agg ds.toArray] (.string T) w):
 Calls Tryz.prog 54 #[.agg #[.int .i64 3,.int .i64 m,.string s,.slice (some ⟨b,off,none⟩) 2 cap]] w fun r w'=>r= .returned (.string (D ++ ⟨#[32,45,32]⟩ ++ T))∧Below w.heap.size w w':=by
 have HA:Hid (Below w.heap.size w (w.alloc (.cells #[.int .i64 3,.int .i64 m,.string s,.slice (some ⟨b,off,none⟩) 2 cap] 37))):=box_low
 have HD:=(hd.up HA.out).reg
 have HI:=(hi.up HA.out).reg
 have HC:Hid (∀W,Below (w.alloc (.cells #[.int .i64 3,.int .i64 m,.string s,.slice (some ⟨b,off,none⟩) 2 cap] 37)).heap.size (w.alloc (.cells #[.int .i64 3,.int .i64 m,.string s,.slice (some ⟨b,off,none⟩) 2 cap] 37)) W→∀i v,cs[i]? =some v→W.cell? ((⟨b,off,none⟩:Addr).add i)=some v):=Lib.hid fun W hW i v h=>((HA.out.trans (hW.mono HA.out.size)).cell (by unfold Addr.add;split<;>exact hbl)).trans (hc i v h)
 have HC2:Hid (∀W,Below (w.alloc (.cells #[.int .i64 3,.int .i64 m,.string s,.slice (some ⟨b,off,none⟩) 2 cap] 37)).heap.size (w.alloc (.cells #[.int .i64 3,.int .i64 m,.string s,.slice (some ⟨b,off,none⟩) 2 cap] 37)) W→∀i v,ds[i]? =some v→W.cell? ((⟨b,off+4,none⟩:Addr).add i)=some v):=Lib.hid fun W hW i v h=>((HA.out.trans (hW.mono HA.out.size)).cell (by unfold Addr.add;split<;>exact hbl)).trans (hc2 i v h)
 have c3:=fun d os=>cell_regrown ((Bx.start w [.int .i64 3,.int .i64 m,.string s,.slice (some ⟨b,off,none⟩) 2 cap] 37).at (o:=3) rfl) d os
 have HL:=Lib.hid hl
 have HL2:=Lib.hid hl2
 have s1:¬(D.size+(⟨#[32,45,32]⟩:ByteArray).size > 9223372036854775807):=by
  simp only[size_lit,List.size_toArray,List.length_cons,List.length_nil];omega
 have s2:¬((D ++ ⟨#[32,45,32]⟩).size+T.size > 9223372036854775807):=by
  simp only[size_app,size_lit,List.size_toArray,List.length_cons,List.length_nil];omega
 clear hd hi hc hc2 hl hl2 hD hT
 go_enter Tryz.func54,Tryz.ntmps54
 go_wp2_with fail
 refine wp_region_quiet_below (by kernel_rfl) (by kernel_rfl) ?_
 repeat (first | (go_big_quiet_step (first | with_reducible exact HD _ _ | with_reducible exact HI _ _)) | (refine wpQuiet_load_c 37 _ rfl ⟨b,off,none⟩ rfl cs _ HC.out rfl Tryz.underlying37 rfl (by rw[HL.out];kernel_rfl) _ (by simp only[Act.put,List.setIfInBounds_toArray,List.set_cons_succ,List.set_cons_zero];rfl) ?_) | (refine wpQuiet_load_c 37 _ rfl ⟨b,off+4,none⟩ rfl ds _ HC2.out rfl Tryz.underlying37 rfl (by rw[HL2.out];kernel_rfl) _ (by simp only[Act.put,List.setIfInBounds_toArray,List.set_cons_succ,List.set_cons_zero];rfl) ?_))
 refine wpQuiet_nil ?_
 intro w9 hw'
 obtain⟨⟨dq,osq⟩,hw''⟩:=hw'
 have HB9:Hid (Below w.heap.size w w9):=Lib.hid (by rw[hw''];exact HA.out.trans ((below_regrown _ dq osq).mono HA.out.size))
 clear hw'' HD HI c3
 go_wp2_with fail
 go_ret
 exact⟨rfl,HB9.out⟩
theorem inside_2 (k m:Int)(s:ByteArray)(a:Option Addr)(l cap:Nat)(D:ByteArray)(hD:D.size≤1000000000)(hk:k=2)(w:World)(hd:ValAll 54 #[.agg #[.int .i64 k,.int .i64 m,.string s,.slice a l cap]] (.string D) w):
 Calls Tryz.prog 94 #[.agg #[.int .i64 k,.int .i64 m,.string s,.slice a l cap]] w fun r w'=>r= .returned (.string (brk D))∧Below w.heap.size w w':=by
 have HA:Hid (Below w.heap.size w (w.alloc (.cells #[.int .i64 k,.int .i64 m,.string s,.slice a l cap] 37))):=box_low
 have HD:=Lib.hid (hd.up HA.out)
 unfold brk
 have s1:¬((⟨#[40,32]⟩:ByteArray).size+D.size > 9223372036854775807):=by
  simp only[size_lit,List.size_toArray,List.length_cons,List.length_nil];omega
 have s2:¬((⟨#[40,32]⟩ ++ D:ByteArray).size+(⟨#[32,41]⟩:ByteArray).size > 9223372036854775807):=by
  simp only[size_app,size_lit,List.size_toArray,List.length_cons,List.length_nil];omega
 have g0:(k == 2)=true:=by rw[hk];rfl
 clear hd hk hD
 go_enter Tryz.func94,Tryz.ntmps94
 go_wp2_with fail
 refine(HD.out.at (Below.refl _ _)).mono ?_
 rintro e w1 ⟨rfl,hb⟩
 have HB:=Lib.hid (HA.out.trans (hb.mono HA.out.size))
 clear hb HD
 go_wp2_with fail
 go_ret
 exact⟨rfl,HB.out⟩
theorem inside_3 (k m:Int)(s:ByteArray)(a:Option Addr)(l cap:Nat)(D:ByteArray)(hD:D.size≤1000000000)(hk:k=3)(w:World)(hd:ValAll 54 #[.agg #[.int .i64 k,.int .i64 m,.string s,.slice a l cap]] (.string D) w):
 Calls Tryz.prog 94 #[.agg #[.int .i64 k,.int .i64 m,.string s,.slice a l cap]] w fun r w'=>r= .returned (.string (brk D))∧Below w.heap.size w w':=by
 have HA:Hid (Below w.heap.size w (w.alloc (.cells #[.int .i64 k,.int .i64 m,.string s,.slice a l cap] 37))):=box_low
 have HD:=Lib.hid (hd.up HA.out)
 unfold brk
 have s1:¬((⟨#[40,32]⟩:ByteArray).size+D.size > 9223372036854775807):=by
  simp only[size_lit,List.size_toArray,List.length_cons,List.length_nil];omega
 have s2:¬((⟨#[40,32]⟩ ++ D:ByteArray).size+(⟨#[32,41]⟩:ByteArray).size > 9223372036854775807):=by
  simp only[size_app,size_lit,List.size_toArray,List.length_cons,List.length_nil];omega
 have g0:(k == 2)=false:=by rw[hk];rfl
 have g1:(k == 3)=true:=by rw[hk];rfl
 clear hd hk hD
 go_enter Tryz.func94,Tryz.ntmps94
 go_wp2_with fail
 refine(HD.out.at (Below.refl _ _)).mono ?_
 rintro e w1 ⟨rfl,hb⟩
 have HB:=Lib.hid (HA.out.trans (hb.mono HA.out.size))
 clear hb HD
 go_wp2_with fail
 go_ret
 exact⟨rfl,HB.out⟩
theorem inside_x (k m:Int)(s:ByteArray)(a:Option Addr)(l cap:Nat)(D:ByteArray)(hD:D.size≤1000000000)(hk:¬(k=2∨k=3))(w:World)(hd:ValAll 54 #[.agg #[.int .i64 k,.int .i64 m,.string s,.slice a l cap]] (.string D) w):
 Calls Tryz.prog 94 #[.agg #[.int .i64 k,.int .i64 m,.string s,.slice a l cap]] w fun r w'=>r= .returned (.string (D))∧Below w.heap.size w w':=by
 have HA:Hid (Below w.heap.size w (w.alloc (.cells #[.int .i64 k,.int .i64 m,.string s,.slice a l cap] 37))):=box_low
 have HD:=Lib.hid (hd.up HA.out)
 have g0:(k == 2)=false:=by rw[Bool.eq_false_iff];simp only[ne_eq,beq_iff_eq];omega
 have g1:(k == 3)=false:=by rw[Bool.eq_false_iff];simp only[ne_eq,beq_iff_eq];omega
 clear hd hk hD
 go_enter Tryz.func94,Tryz.ntmps94
 go_wp2_with fail
 refine(HD.out.at (Below.refl _ _)).mono ?_
 rintro e w1 ⟨rfl,hb⟩
 have HB:=Lib.hid (HA.out.trans (hb.mono HA.out.size))
 clear hb HD
 go_wp2_with fail
 go_ret
 exact⟨rfl,HB.out⟩
end
section
open Go.RowKit
theorem inB_int {n:Int}(h:inB n=true): -1073741824≤n∧n≤1073741824:=by
 unfold inB at h
 simpa using h
theorem cell_add {w:World}{b o:Nat}{cs:List Value}(h:∀i v,cs[i]? =some v→w.cell? ⟨b,o+i,none⟩=some v):∀i v,cs[i]? =some v→w.cell? ((⟨b,o,none⟩:Addr).add i)=some v:=fun i v hv=>by
 rw[show(⟨b,o,none⟩:Addr).add i=⟨b,o+i,none⟩ by unfold Addr.add;split<;>simp_all]
 exact h i v hv
theorem inside_any (n:Nat)(e:ET)(cs:List Value)(w:World)(D:ByteArray)(h:(exprSh n).rel (Pak.Lo w.heap.size) w cs e)(hD:D.size≤1000000000)(hd:ValAll 54 #[.agg cs.toArray] (.string D) w):
 ValAll 94 #[.agg cs.toArray] (.string (bif sumK e.kind then brk D else D)) w:=fun W hW=>by
 cases n with
 | zero=>exact h.elim
 | succ n=>
   obtain⟨v,rfl,_,a,cap,rfl,hs⟩:=h
   by_cases h2:e.kind=2
   ·rw[show sumK e.kind=true by rw[h2];rfl]
    exact inside_2 _ _ _ _ _ _ _ hD h2 W (hd.up hW)
   ·by_cases h3:e.kind=3
    ·rw[show sumK e.kind=true by rw[h3];rfl]
     exact inside_3 _ _ _ _ _ _ _ hD h3 W (hd.up hW)
    ·have hx:¬(e.kind=2∨e.kind=3):=fun h=>h.elim h2 h3
     rw[show sumK e.kind=false from decide_eq_false hx]
     exact inside_x _ _ _ _ _ _ _ hD hx W (hd.up hW)
theorem textE_any {nm:ByteArray→Bool}(hnm:∀s,nm s=true→s.size≤32):∀(n:Nat) (e:ET) (cs:List Value) (w:World),(exprSh n).rel (Pak.Lo w.heap.size) w cs e→snE nm n e=true→ptE n e≤100000→
 Calls Tryz.prog 54 #[.agg cs.toArray] w fun r w'=>r= .returned (.string (txE n e))∧Below w.heap.size w w'
 | 0,_,_,_,h,_,_=>h.elim
 | n+1,e,cs,w,h,hsn,hpt=>by
   obtain⟨hk,hl,hks,h1,h4⟩:=snE_inv hsn
   obtain⟨v,rfl,⟨_,_,hsz⟩,a,cap,rfl,hs⟩:=h
   have hp:∀x∈e.ks,ptE n x≤100000∧(txE n x).size≤10000000:=fun x hx=>by
    have p1:=pt_mem (n:=n) hx
    have p2:=txE_le hnm n x (hks x hx)
    rw[ptE_succ]at hpt
    exact⟨by omega,by omega⟩
   have IH:∀x∈e.ks,∀cs,(exprSh n).rel (Pak.Lo w.heap.size) w cs x→ValAll 54 #[.agg cs.toArray] (.string (txE n x)) w:=fun x hx cs hr W hW=>
    textE_any hnm n x cs W (rel_low hr hW) (hks x hx) (hp x hx).1
   have IN:∀x∈e.ks,∀cs,(exprSh n).rel (Pak.Lo w.heap.size) w cs x→ValAll 94 #[.agg cs.toArray] (.string (inE n x)) w:=fun x hx cs hr=>
    inside_any n x cs w _ hr (by have:=(hp x hx).2;omega) (IH x hx cs hr)
   rw[txE_succ]
   by_cases k0:e.kind=0
   ·rw[if_pos k0,k0]
    exact textE_0 _ _ _ _ _ _ w (digits_any _ (inB_int (h4 (.inl k0))) w)
   ·rw[if_neg k0]
    by_cases k1:e.kind=1
    ·rw[if_pos k1,k1]
     exact textE_1 _ _ _ _ _ w
    ·rw[if_neg k1]
     by_cases k4:e.kind=4
     ·rw[if_pos k4,k4]
      rw[k4]at hl
      obtain⟨x,hx⟩:=list_one hl
      rw[hx]at hs⊢
      obtain⟨b,off,ds,rfl,hbl,hc,hr⟩:=hs.2 0 (by simp)
      have hm:x∈e.ks:=by rw[hx];simp
      have hsz:=(hp x hm).2
      have hin:=inE_le n x
      have hdg:=dgI_le e.n
      rw[Nat.zero_mul,Nat.add_zero]at hc
      exact textE_4 _ _ b off cap ds (((exprSh n).len hr).trans (exprSh_k n)) _ _ (by omega) (by show(inE n x).size≤_;omega) w (cell_add hc) hbl (digits_any _ (inB_int (h4 (.inr k4))) w) (IN x hm ds hr)
     ·rw[if_neg k4]
      have hl2:e.ks.length=2:=by rw[hl,kidsE,if_pos (by omega)]
      obtain⟨x,y,hx⟩:=list_two hl2
      rw[hx]at hs⊢
      obtain⟨b,off,ds,rfl,hbl,hc,hr⟩:=hs.2 0 (by simp)
      obtain⟨b2,off2,gs,e2,_,hc2,hr2⟩:=hs.2 1 (by simp)
      injection e2 with e2
      injection e2 with e3 e4 e5
      subst e3 e4
      have hm:x∈e.ks:=by rw[hx];simp
      have hm2:y∈e.ks:=by rw[hx];simp
      have hsz:=(hp x hm).2
      have hsz2:=(hp y hm2).2
      have hin:=inE_le n y
      rw[Nat.zero_mul,Nat.add_zero]at hc
      rw[Nat.one_mul,exprSh_k]at hc2
      have hk23:e.kind=2∨e.kind=3:=by omega
      rcases hk23 with k2 | k3
      ·rw[k2]
       exact textE_2 _ _ b off cap ds gs (((exprSh n).len hr).trans (exprSh_k n)) (((exprSh n).len hr2).trans (exprSh_k n)) _ _ (by show(txE n x).size≤_;omega) (by show(inE n y).size≤_;omega) w (cell_add hc) (cell_add hc2) hbl (IH x hm ds hr) (IN y hm2 gs hr2)
      ·rw[k3]
       exact textE_3 _ _ b off cap ds gs (((exprSh n).len hr).trans (exprSh_k n)) (((exprSh n).len hr2).trans (exprSh_k n)) _ _ (by show(txE n x).size≤_;omega) (by show(inE n y).size≤_;omega) w (cell_add hc) (cell_add hc2) hbl (IH x hm ds hr) (IN y hm2 gs hr2)
end
section
open Go.RowKit
theorem txR_le {M:Nat}{l:List ByteArray}(h:∀x∈l,x.size≤M):∀k,k≤l.length→(txR l k).size≤k*(M+3)
 | 0,_=>by simp[txR,size_lit]
 | k+1,hk=>by
   have IH:=txR_le h k (by omega)
   have hx:=h l[k] (List.getElem_mem (by omega))
   unfold txR
   rw[List.getD_eq_getElem?_getD,List.getElem?_eq_getElem (by omega),Option.getD_some,Nat.succ_mul]
   split<;>(simp only[size_app,size_lit,List.size_toArray,List.length_cons,List.length_nil];omega)
theorem txR_at {l:List ByteArray}{j:Nat}(h:j<l.length):txR l (j+1)=(if 0<j then txR l j ++ ⟨#[44,32]⟩ else txR l j) ++ l[j] ++ ⟨#[32]⟩:=by
 rw[txR,List.getD_eq_getElem?_getD,List.getElem?_eq_getElem h,Option.getD_some]
theorem row_any (a:Option Addr)(m cap M:Nat)(xs:List ByteArray)(w:World)(hm:xs.length=m)(hs:Pak.Sits strSh (Pak.Lo w.heap.size) w a xs)(hM:∀x∈xs,x.size≤M)(hM2:M≤100000000)(hlen:m≤100000):
 Calls Tryz.prog 24 #[.slice a m cap] w fun r w'=>r= .returned (.string (txRow xs))∧Below w.heap.size w w':=by
 have HS:=Lib.hid hs
 have HM:=Lib.hid hm
 have hmm:m≤9223372036854775807:=by omega
 have HX:Hid (∀j,(hj:j<xs.length)→xs[j].size≤100000000∧(txR xs j).size≤100000*100000003):=Lib.hid fun j hj=>by
  exact⟨Nat.le_trans (hM _ (List.getElem_mem hj)) hM2,Nat.le_trans (txR_le hM j (by omega)) (Nat.mul_le_mul (by omega) (by omega))⟩
 have HE:Hid (txRow xs=txR xs m):=Lib.hid (by rw[txRow,hm])
 clear hs hm hM hM2 hlen
 go_enter Tryz.func24,Tryz.ntmps24
 go_wp2_with fail
 go_loopw [3,4] (fun o i wr=>∃j:Nat,j≤m∧i= .int .i64 j∧o= .string (txR xs j)∧Hid (Below w.heap.size w wr)) (fun _ i _=>m - (intOf i).toNat)
 case atStart=>exact⟨0,Nat.zero_le _,rfl,rfl,Below.refl _ _⟩
 case round=>
  obtain⟨j,hj,rfl,rfl,hb⟩:=hrel
  by_cases hlt:j<m
  ·have hlx:j<xs.length:=by rw[HM.out];exact hlt
   have hji:(j:Int)<(m:Int):=by omega
   obtain⟨b,off,cs,rfl,hbl,hc,rfl,_⟩:=(HS.out.below hb.out hb.out.size).2 j hlx
   have c0:=hc 0 _ rfl
   rw[show strSh.k=1 from rfl,Nat.mul_one,Nat.add_zero]at c0
   obtain⟨hX,hR⟩:=HX.out j hlx
   have hN:=txR_at hlx
   have HB:=Lib.hid hb.out
   clear hc hb
   generalize xs[j]=x at c0 hX hN
   obtain⟨R1,hR1⟩:∃R1,txR xs (j+1)=R1:=⟨_,rfl⟩
   rw[hR1]at hN
   have HR1:=Lib.hid hR1
   clear hR1
   generalize txR xs j=R at*
   by_cases h0:0<j
   ·rw[if_pos h0]at hN
    subst hN
    have h0i:(0:Int)<(j:Int):=by omega
    have s1:¬(R.size+(⟨#[44,32]⟩:ByteArray).size > 9223372036854775807):=by
     simp only[size_app,size_lit,List.size_toArray,List.length_cons,List.length_nil];omega
    have s2:¬((R ++ ⟨#[44,32]⟩:ByteArray).size+x.size > 9223372036854775807):=by
     simp only[size_app,size_lit,List.size_toArray,List.length_cons,List.length_nil];omega
    have s3:¬((R ++ ⟨#[44,32]⟩ ++ x:ByteArray).size+(⟨#[32]⟩:ByteArray).size > 9223372036854775807):=by
     simp only[size_app,size_lit,List.size_toArray,List.length_cons,List.length_nil];omega
    clear hX hR
    go_wp2_with fail
    go_roundw
    case rel=>exact⟨j+1,by omega,by go_num,congrArg _ HR1.out.symm,HB⟩
    case measure=>simp[intOf];omega
   ·rw[if_neg h0]at hN
    subst hN
    have h0i:¬(0:Int)<(j:Int):=by omega
    have s2:¬(R.size+x.size > 9223372036854775807):=by omega
    have s3:¬((R ++ x:ByteArray).size+(⟨#[32]⟩:ByteArray).size > 9223372036854775807):=by
     simp only[size_app,size_lit,List.size_toArray,List.length_cons,List.length_nil];omega
    clear hX hR
    go_wp2_with fail
    go_roundw
    case rel=>exact⟨j+1,by omega,by go_num,congrArg _ HR1.out.symm,HB⟩
    case measure=>simp[intOf];omega
  ·obtain rfl:j=m:=by omega
   have hji:¬(j:Int)<(j:Int):=by omega
   go_wp2_with fail
   go_ret
   exact⟨congrArg (fun s=>Ending.returned (Value.string s)) HE.out.symm,hb.out⟩
theorem txR_map {n:Nat}{es:List ET}{nm:ByteArray→Bool}(hnm:∀s,nm s=true→s.size≤32)(hs:∀x∈es,snE nm n x=true)(hp:ptEs n es≤100000):∀x∈es.map (txE n),x.size≤6400000:=fun x hx=>by
 obtain⟨e,he,rfl⟩:=List.mem_map.1 hx
 have h1:=txE_le hnm n e (hs e he)
 have h2:=pt_mem (n:=n) he
 omega
theorem textEs_any {nm:ByteArray→Bool}(hnm:∀s,nm s=true→s.size≤32)(n:Nat)(a:Option Addr)(m cap:Nat)(es:List ET)(w:World)(hm:es.length=m)(hs:Pak.Sits (exprSh n) (Pak.Lo w.heap.size) w a es)(hsn:∀x∈es,snE nm n x=true)(hpt:ptEs n es≤100000)(hlen:m≤100000):
 Calls Tryz.prog 95 #[.slice a m cap] w fun r w'=>r= .returned (.string (txRow (es.map (txE n))))∧Below w.heap.size w w':=by
 have HS:=Lib.hid hs
 have HM:=Lib.hid hm
 have hmm:m≤9223372036854775807:=by omega
 have HK:Hid (∀j,(hj:j<es.length)→∀cs W,(exprSh n).rel (Pak.Lo W.heap.size) W cs es[j]→Calls Tryz.prog 54 #[.agg cs.toArray] W fun r w'=>r= .returned (.string (txE n es[j]))∧Below W.heap.size W w'):=Lib.hid fun j hj cs W hr=>
  textE_any hnm n es[j] cs W hr (hsn _ (List.getElem_mem hj)) (Nat.le_trans (pt_mem (List.getElem_mem hj)) hpt)
 have HZ:Hid (∀j,(hj:j<es.length)→(txE n es[j]).size≤6400000):=Lib.hid fun j hj=>txR_map hnm hsn hpt _ (List.mem_map_of_mem (List.getElem_mem hj))
 have HROW:=Lib.hid (fun v W (h:StrRow w.heap.size (es.map (txE n)) v W) (hB:Below w.heap.size w W)=>show ∃a2 cap2,v= .slice a2 m cap2∧Calls Tryz.prog 24 #[.slice a2 m cap2] W fun r w'=>r= .returned (.string (txRow (es.map (txE n))))∧Below W.heap.size W w' from by
  obtain⟨a2,cap2,rfl,hs2⟩:=h.1.sits (by rw[List.length_map];omega)
  rw[List.length_map,hm]
  exact⟨a2,cap2,rfl,row_any a2 m cap2 6400000 _ W (by rw[List.length_map,hm]) hs2 (txR_map hnm hsn hpt) (by omega) hlen⟩)
 have HLEN:=Lib.hid hlen
 clear hs hm hsn hpt hlen
 go_enter Tryz.func95,Tryz.ntmps95
 go_wp2_with fail
 go_loopw [3,4] (fun o i wr=>∃j:Nat,j≤m∧i= .int .i64 j∧Hid (StrRow w.heap.size ((es.take j).map (txE n)) o wr)∧Hid (Below w.heap.size w wr)) (fun _ i _=>m - (intOf i).toNat)
 case atStart=>exact⟨0,Nat.zero_le _,rfl,Lib.hid (StrRow.nil _ _),Below.refl _ _⟩
 case round=>
  obtain⟨j,hj,rfl,hrw,hb⟩:=hrel
  by_cases hlt:j<m
  ·have hlx:j<es.length:=by rw[HM.out];exact hlt
   have hji:(j:Int)<(m:Int):=by omega
   obtain⟨b,off,cs,rfl,hbl,hc,hr⟩:=(HS.out.below hb.out hb.out.size).2 j hlx
   have hlen:=(exprSh n).len hr
   rw[exprSh_k]at hlen hc
   have HC:=Lib.hid (cell_add hc)
   have HL:=Lib.hid hlen
   have F:=Lib.hid (HK.out j hlx cs wr hr)
   have HX:=HZ.out j hlx
   have HSN:Hid ((es.take (j+1)).map (txE n)=(es.take j).map (txE n) ++ [txE n es[j]]):=Lib.hid (by rw[List.take_succ_eq_append_getElem hlx,List.map_append];rfl)
   have R0:=Lib.hid hrw.out
   have B0:=Lib.hid hb.out
   clear hc hb hrw hr hlen
   generalize txE n es[j]=T at*
   go_wp2_with (refine wpList_load_w rfl 37 _ rfl ⟨b,off+j*4,none⟩ rfl cs _ HC.out Tryz.underlying37 rfl (by rw[HL.out];kernel_rfl) ?_)
   refine F.out.mono ?_
   rintro r w1 ⟨rfl,hb1⟩
   have hA:Below w1.heap.size w1 (w1.alloc (.cells #[.string T] 9)):=box_low
   have B1:=B0.out.trans (hb1.mono B0.out.size)
   have hA0:=B1.trans (hA.mono B1.size)
   obtain⟨v2,w2,hrun,hrow2,hb2⟩:=run_cat_str (w:=w1.alloc (.cells #[.string T] 9)) w.heap.size ((es.take j).map (txE n)) [T] _ (.slice (some ⟨w1.heap.size,0,none⟩) 1 1) (R0.out.below (hb1.trans (hA.mono hb1.size))) hA0.size ⟨_,_,rfl,sits_blk (cs:=[.string T]) (heap_alloc_new _ _) (by simp) ⟨rfl,by unfold maxLen;omega⟩⟩ (fun h=>absurd h (by simp)) (by rw[List.length_map,List.length_take];simp only[List.length_singleton];have:=HLEN.out;omega)
   have BW:=Lib.hid (hA0.trans hb2)
   have RW:Hid (StrRow w.heap.size ((es.take (j+1)).map (txE n)) v2 w2):=Lib.hid (by rw[HSN.out];exact hrow2)
   clear hA B1 hA0 hrow2 hb2 hb1 R0 B0 F
   go_wp2_with (at_builtin;refine Lib.wpList_append_run _ rfl _ _ _ _ rfl _ _ rfl rfl _ _ (hrun _) ?_)
   clear hrun
   go_roundw
   case rel=>exact⟨j+1,by omega,by go_num,RW,BW⟩
   case measure=>simp[intOf];omega
  ·obtain rfl:j=m:=by omega
   have hji:¬(j:Int)<(j:Int):=by omega
   obtain⟨a2,cap2,rfl,F⟩:=HROW.out _ wr (by have h:=hrw.out;rwa [←HM.out,List.take_length]at h) hb.out
   have FF:=Lib.hid F
   have B0:=Lib.hid hb.out
   clear hrw hb F
   go_wp2_with fail
   refine FF.out.mono ?_
   rintro r w1 ⟨rfl,hb1⟩
   have B1:=Lib.hid (B0.out.trans (hb1.mono B0.out.size))
   clear hb1 FF B0
   go_wp2_with fail
   go_ret
   exact⟨rfl,B1.out⟩
end
end Go.Proofs.YtfcaclmcnlflfaaGreatDoor
