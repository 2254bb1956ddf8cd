/- The document's Make. The document's examples of layer 9; small; lists of forms, of clauses: are they the same? -/
import Derived.Test.YtelndcmfddbgiaaDoorCt13
import Derived.Test.YtelndcmfddbgiaaDoorCt21
import Derived.Test.YtelndcmfddbgiaaDoorCt22
import Derived.Test.YtelndcmfddbgiaaDoorCt23
import Derived.Deep.RegionWith
set_option linter.unusedVariables false
set_option linter.unusedSimpArgs false
set_option linter.unusedVariables false
set_option linter.unusedSimpArgs false
namespace Go.Proofs.YtelndcmfddbgiaaDoor
set_option maxRecDepth 100000
open Go.RowKit

theorem rmk_any (am : List (Int × List (Int × Int))) (B K : Nat) (la : Option Addr) (lc : Nat) (hB : B ≤ K) (hsh : short am) : ∀ n, RMkSaid am B K la lc n
  | 0 => fun f cs N cl S v w h => h.elim
  | n + 1 => fun f cs N cl S v w h hm hl hv hK hb1 hb2 => by
    rcases made_kind hm with hk | hk | hk | hk | hk | hk
    · exact rmk_0 am B K la lc hB n (rmk_any am B K la lc hB hsh n) f cs N cl S v w h hm hl hv hK hb1 hb2 hk
    · exact rmk_1 am B K la lc hB n (rmk_any am B K la lc hB hsh n) f cs N cl S v w h hm hl hv hK hb1 hb2 hk
    · exact rmk_2 am B K la lc hB hsh n f cs N cl S v w h hm hl hv hK hk
    · exact rmk_4 am B K la lc hB n (rmk_any am B K la lc hB hsh n) f cs N cl S v w h hm hl hv hK hb1 hb2 hk
    · exact rmk_5 am B K la lc hB n (rmk_any am B K la lc hB hsh n) f cs N cl S v w h hm hl hv hK hb1 hb2 hk
    · exact rmk_6 am B K la lc hB n (rmk_any am B K la lc hB hsh n) f cs N cl S v w h hm hl hv hK hb1 hb2 hk
def RCnfEnd (n : Nat) (f : FT) (w : World) (e : Ending) (w' : World) : Prop :=
  (cnfK n f ≠ 0 → e = .returned (.tuple #[.agg #[.int .i64 0, .slice none 0 0, .slice none 0 0], .int .i64 (cnfK n f)])) ∧ (cnfK n f = 0 → ∃ aa ac ca cc, e = .returned (.tuple #[.agg #[.int .i64 (makF n f).n, .slice aa (atomsF n f).length ac, .slice ca (clsF n f).length cc], .int .i64 0]) ∧ Pak.Sits linSh (Pak.Lo w'.heap.size) w' aa (atomsF n f) ∧ Pak.Sits Pak.clauseSh (Pak.Lo w'.heap.size) w' ca (clsF n f)) ∧ Below w.heap.size w w'
theorem ret_made {n : Nat} {f : FT} (h : isF n f = true) : madeF n f = true := by
  unfold isF at h
  simp only [Bool.and_eq_true] at h
  exact h.2.2
theorem set3_block {W : World} {No b : Nat} (hb : b ≠ No) (x0 x1 x2 : Value) : (((W.setCell ⟨No, 0, none⟩ x0).setCell ⟨No, 1, none⟩ x1).setCell ⟨No, 2, none⟩ x2).heap[b]? = W.heap[b]? := by
  rw [Below.heap_setCell _ _ _ _ hb, Below.heap_setCell _ _ _ _ hb, Below.heap_setCell _ _ _ _ hb]
set_option maxHeartbeats 16000000 in
theorem rmake_any (n : Nat) (f : FT) (cs : List Value) (w : World) (h : FLies w.heap.size w n f cs) :
    Calls Tryd.prog 10 #[.agg cs.toArray] w (RCnfEnd n f w) := by
  obtain ⟨n, rfl⟩ : ∃ m, n = m + 1 := by
    cases n with
    | zero => exact h.elim
    | succ n => exact ⟨n, rfl⟩
  obtain ⟨ta, tcap, ka, kcap, rfl, h4, h5, h6, h7⟩ := h
  have hfl : FLies w.heap.size w (n + 1) f [.int .i64 f.kind, .int .i64 f.c, .slice ta f.t.length tcap, .slice ka f.ks.length kcap] := ⟨ta, tcap, ka, kcap, rfl, h4, h5, h6, h7⟩
  have hA : Below w.heap.size w (w.alloc (.cells #[.int .i64 f.kind, .int .i64 f.c, .slice ta f.t.length tcap, .slice ka f.ks.length kcap] 27)) := (Below.refl _ w).alloc (Nat.le_refl _) _
  have HB := box_start w f.kind f.c ta ka f.t.length tcap f.ks.length kcap
  have hA2 : Below (w.alloc (.cells #[.int .i64 f.kind, .int .i64 f.c, .slice ta f.t.length tcap, .slice ka f.ks.length kcap] 27)).heap.size (w.alloc (.cells #[.int .i64 f.kind, .int .i64 f.c, .slice ta f.t.length tcap, .slice ka f.ks.length kcap] 27)) ((w.alloc (.cells #[.int .i64 f.kind, .int .i64 f.c, .slice ta f.t.length tcap, .slice ka f.ks.length kcap] 27)).alloc (.cells #[.int .i64 0, .slice none 0 0, .slice none 0 0] 33)) := (Below.refl _ _).alloc (Nat.le_refl _) _
  have hz1 : (w.alloc (.cells #[.int .i64 f.kind, .int .i64 f.c, .slice ta f.t.length tcap, .slice ka f.ks.length kcap] 27)).heap.size = w.heap.size + 1 := by simp
  have hrc := rc_new (w.alloc (.cells #[.int .i64 f.kind, .int .i64 f.c, .slice ta f.t.length tcap, .slice ka f.ks.length kcap] 27)) (w.heap.size + 1) hz1
  have hAA := hA.trans (hA2.mono hA.size)
  have hz2 : ((w.alloc (.cells #[.int .i64 f.kind, .int .i64 f.c, .slice ta f.t.length tcap, .slice ka f.ks.length kcap] 27)).alloc (.cells #[.int .i64 0, .slice none 0 0, .slice none 0 0] 33)).heap.size = w.heap.size + 2 := by simp
  have HIS := Lib.hid (rnis_any (n + 1) f _ _ ((hfl.below hAA).mono hAA.size))
  have hbx := fun j => hA2.cell (p := ⟨w.heap.size, j, none⟩) (show w.heap.size < _ by rw [hz1]; omega)
  have b0 := (hbx 0).trans HB.c0
  have b1 := (hbx 1).trans HB.c1
  have b2 := (hbx 2).trans HB.c2
  have b3 := (hbx 3).trans HB.c3
  have HFL := Lib.hid hfl
  have HZ2 := Lib.hid hz2
  have HRC := Lib.hid hrc
  have HAA := Lib.hid hAA
  have HCF := Lib.hid (fun hi => cls_len (n := n + 1) (f := f) hi)
  have HMD := Lib.hid (fun hi => ret_made (n := n + 1) (f := f) hi)
  have HKK : Hid (cnfK (n + 1) f = if isF (n + 1) f = false then 5 else if 8192 < (makF (n + 1) f).n ∨ Prp.chkK (makF (n + 1) f).n (clsF (n + 1) f) ≠ 0 then 2 else 0) := rfl
  clear hA HB hA2 hz1 hz2 hrc hAA hbx hfl h4 h7
  generalize f.kind = fk at *
  generalize f.c = fc at *
  generalize f.t.length = ft at *
  generalize f.ks.length = fl at *
  go_enter Tryd.func10, Tryd.ntmps10
  go_wp2_with fail
  generalize (w.alloc (.cells #[.int .i64 fk, .int .i64 fc, .slice ta ft tcap, .slice ka fl kcap] 27)).alloc (.cells #[.int .i64 0, .slice none 0 0, .slice none 0 0] 33) = W2 at *
  refine HIS.out.mono ?_
  rintro e w3 ⟨rfl, hb3⟩
  have hk3 := fun j => hb3.cell (p := ⟨w.heap.size, j, none⟩) (show w.heap.size < _ by rw [HZ2.out]; omega)
  have x0 := (hk3 0).trans b0
  have x1 := (hk3 1).trans b1
  have x2 := (hk3 2).trans b2
  have x3 := (hk3 3).trans b3
  have HR3 := Lib.hid (HRC.out.keep (hb3.block (w.heap.size + 1) (by rw [HZ2.out]; omega)))
  have HB3 := Lib.hid (HAA.out.trans (hb3.mono HAA.out.size))
  have HZ3 : Hid (w.heap.size + 2 ≤ w3.heap.size) := Lib.hid (by have := hb3.size; rw [HZ2.out] at this; exact this)
  clear hb3 hk3 b0 b1 b2 b3 HIS HRC HAA HZ2
  cases hi : isF (n + 1) f with
  | false =>
    have HKV : Hid (cnfK (n + 1) f = 5) := Lib.hid (by rw [HKK.out, if_pos hi])
    clear x0 x1 x2 x3 HKK hi
    obtain ⟨r0, r1, r2, rf⟩ := HR3.out
    go_wp2_with fail
    clear r0 r1 r2 rf
    refine bodyPost_ret (v := .tuple #[.agg #[.int .i64 0, .slice none 0 0, .slice none 0 0], .int .i64 5]) ?_ rfl ⟨fun _ => by rw [HKV.out], fun h => absurd h (by rw [HKV.out]; decide), below3 HB3.out (Nat.le_succ _) _ _ _⟩
    obtain ⟨e0, e1, e2⟩ := res3 HR3.out (.int .i64 0) (.slice none 0 0) (.slice none 0 0)
    simp [results, Tryd.results10, go_sem, e0, e1, e2]
  | true =>
    obtain ⟨hq1, hq2, hq3, hq4⟩ := HCF.out hi
    have hmd := HMD.out hi
    have HHI := Lib.hid hi
    have hsh0 : short [] := fun y hy => by cases hy
    have HSH := Lib.hid (short_gat (n + 1) f [] hmd hsh0)
    have hr0 : ARow w.heap.size w3.heap.size [] (.slice none 0 0) w3 := (OwnP.nil linSh 24 w3.heap.size w3).more (fun b h => h.elim) (fun b hb => ⟨Nat.lt_of_lt_of_le hb HB3.out.size, fun e => by cases e⟩)
    have HATO := Lib.hid (rat_any w.heap.size w3.heap.size HB3.out.size (n + 1) f _ [] _ w3 (HFL.out.below HB3.out) hmd hr0 (Nat.le_refl _) hsh0 (by simp; omega))
    have HQ := Lib.hid (And.intro hq1 (And.intro hq2 (And.intro hq3 hq4)))
    have HMD2 := Lib.hid hmd
    clear hi hq1 hq2 hq3 hq4 hmd hr0 hsh0 HCF HMD
    go_wp2_with fail
    refine HATO.out.mono ?_
    rintro e w4 ⟨v4, rfl, hR4⟩
    obtain ⟨aa, ac, ea⟩ := hR4.1.form
    subst ea
    have hb4 : Below w3.heap.size w3 w4 := grown_low hR4.2.1 (Nat.le_refl _) (fun q e => by cases e)
    have hlt3 : w.heap.size < w3.heap.size := by have := HZ3.out; omega
    have y0 := (hb4.cell (p := ⟨w.heap.size, 0, none⟩) hlt3).trans x0
    have y1 := (hb4.cell (p := ⟨w.heap.size, 1, none⟩) hlt3).trans x1
    have y2 := (hb4.cell (p := ⟨w.heap.size, 2, none⟩) hlt3).trans x2
    have y3 := (hb4.cell (p := ⟨w.heap.size, 3, none⟩) hlt3).trans x3
    have HR4 := Lib.hid (HR3.out.keep (hb4.block (w.heap.size + 1) (by have := HZ3.out; omega)))
    have HB4 := Lib.hid (HB3.out.trans (hb4.mono HB3.out.size))
    have HZ4 := Lib.hid hb4.size
    obtain ⟨aa', ac', ea, hsA⟩ := hR4.1.slot (by have := HQ.out.1; unfold atomsF at this; omega)
    injection ea with ea1 ea2 ea3
    subst ea1 ea3
    have HSA0 : Hid (Pak.Sits linSh (fun b => b ≠ w.heap.size + 1 ∧ b < w4.heap.size) w4 aa (atomsF (n + 1) f)) := Lib.hid (hsA.keep (fun b hb => by
      rcases hb with hb | hb
      · exact ⟨by have : b < w.heap.size := hb; omega, (hR4.1.ok b hb).1⟩
      · exact ⟨by have := (hR4.1.lt b hb).1; have := HZ3.out; omega, (hR4.1.lt b hb).2⟩) (fun _ _ _ => rfl))
    have HSA : Hid (Pak.Sits linSh (Pak.Lo w4.heap.size) w4 aa (atomsF (n + 1) f)) := Lib.hid (HSA0.out.lo (fun b hb => hb.2))
    have HMK := Lib.hid (rmk_any (atomsF (n + 1) f) w.heap.size w4.heap.size aa ac HB4.out.size HSH.out (n + 1) f _ (atomsF (n + 1) f).length [] (fun _ => False) (.slice none 0 0) w4 (HFL.out.below HB4.out) HMD2.out HSA.out (OwnP.nil _ _ _ _) (Nat.le_refl _) (by have := HQ.out.1; omega) (by have := HQ.out.1; simp; omega))
    have hln : (gatF (n + 1) f []).length = (atomsF (n + 1) f).length := rfl
    have hmk0 : mkF (atomsF (n + 1) f) (n + 1) f (atomsF (n + 1) f).length [] = makF (n + 1) f := rfl
    rw [hmk0] at HMK
    have hlf := mkF_far (am := atomsF (n + 1) f) (N := (atomsF (n + 1) f).length) (cl := []) HMD2.out (by have := HQ.out.1; omega)
    rw [hmk0] at hlf
    rw [hln]
    clear hR4 hb4 x0 x1 x2 x3 hsA hlt3 hmk0 hln HR3 HB3 HATO HSH
    obtain ⟨al, hal⟩ : ∃ al, al = (atomsF (n + 1) f).length := ⟨_, rfl⟩
    have HAL := Lib.hid hal
    rw [← hal] at HMK ⊢
    clear hal
    go_wp2_with fail
    refine HMK.out.mono ?_
    rintro e w5 ⟨v5, S5, rfl, hS5, hR5⟩
    have hIn := ints_new w5 [(makF (n + 1) f).lit] (fun y hy => by
      rw [List.mem_singleton] at hy
      subst hy; omega) (by simp)
    have hA5 : Below w5.heap.size w5 (w5.alloc (.cells #[.int .i64 (makF (n + 1) f).lit] 3)) := (Below.refl _ _).alloc (Nat.le_refl _) _
    have hz5 : (w5.alloc (.cells #[.int .i64 (makF (n + 1) f).lit] 3)).heap.size = w5.heap.size + 1 := by simp
    have h45 := hR5.2.1.size
    have hvl := fun q e => (hR5.1.lt q e).2
    have hcl : (makF (n + 1) f).cl.length ≤ 4000000 := by
      have := HQ.out.2.2.1
      unfold clsF at this
      rw [List.length_append] at this
      omega
    obtain ⟨a6, n6, c6, w6, hr6, k1, k2, k3⟩ := CRow.add (hR5.after hA5) (by omega) hcl (cap := 1) (n := 1) (zs := [(makF (n + 1) f).lit]) rfl hIn (fun b e => ⟨by omega, fun e2 => by have := hvl b e2; omega⟩)
    rw [hz5] at hr6
    have k1 : CTo w4.heap.size (fun b => S5 b ∨ b = w5.heap.size) (clsF (n + 1) f) (.slice none 0 0) w4 (.slice a6 n6 c6) w6 := k1
    have hb6 : Below w4.heap.size w4 w6 := grown_low k1.2.1 (Nat.le_refl _) (fun q e => by cases e)
    obtain ⟨a6', c6', e6, hs6⟩ := k1.1.slot (by have := HQ.out.2.2.1; omega)
    injection e6 with e61 e62 e63
    subst e61 e62 e63
    have hlo : ∀ b, ((S5 b ∨ b = w5.heap.size) ∨ (Value.slice a6 (clsF (n + 1) f).length c6).ownBlock = some b) → b < w6.heap.size := fun b hb => by
      rcases hb with hb | hb
      · exact (k1.1.ok b hb).1
      · exact (k1.1.lt b hb).2
    have hcl6 := clies_of hs6 hlo
    have HS6 : Hid (Pak.Sits Pak.clauseSh (fun b => b ≠ w.heap.size + 1 ∧ b < w6.heap.size) w6 a6 (clsF (n + 1) f)) := Lib.hid (hs6.keep (fun b hb => by
      have hz3 := HZ3.out
      have hz4 := HZ4.out
      refine ⟨?_, hlo b hb⟩
      rcases hb with (hb | hb) | hb
      · rcases hS5 b hb with hb | hb
        · exact hb.elim
        · omega
      · omega
      · have := (k1.1.lt b hb).1; omega) (fun _ _ _ => rfl))
    have HRC := Lib.hid (Prp.rcheck_any (makF (n + 1) f).n a6 (clsF (n + 1) f).length c6 (clsF (n + 1) f) w6 rfl (by have := HQ.out.2.2.1; omega) hcl6 (fun _ j hj => by
      have := HQ.out.2.2.2 ((clsF (n + 1) f).getD j []) (by rw [List.getD_eq_getElem?_getD, List.getElem?_eq_getElem hj]; exact List.getElem_mem hj)
      omega))
    have HR6 := Lib.hid (HR4.out.keep (hb6.block (w.heap.size + 1) (by have := HZ3.out; have := HZ4.out; omega)))
    have HB6 := Lib.hid (HB4.out.trans (hb6.mono HB4.out.size))
    have HSA6 : Hid (Pak.Sits linSh (fun b => b ≠ w.heap.size + 1 ∧ b < w6.heap.size) w6 aa (atomsF (n + 1) f)) := Lib.hid (HSA0.out.keep (fun b hb => ⟨hb.1, Nat.lt_of_lt_of_le hb.2 hb6.size⟩) (fun b o hb => hb6.cell (p := ⟨b, o, none⟩) hb.2))
    obtain ⟨va5, vc5, e5⟩ := hR5.1.form
    generalize (makF (n + 1) f).cl.length = l5 at e5
    subst e5
    clear hS5 hR5 hIn hA5 hz5 h45 hvl hcl k1 k2 k3 hb6 hs6 hlo hcl6 HMK HR4 HB4 HSA hlf y0 y1 y2 y3
    have HAL2 := HAL
    obtain ⟨cln, hcn⟩ : ∃ cln, cln = (clsF (n + 1) f).length := ⟨_, rfl⟩
    have HCN := Lib.hid hcn
    rw [← hcn] at hr6 HRC
    clear hcn
    by_cases hbad : 8192 < (makF (n + 1) f).n ∨ Prp.chkK (makF (n + 1) f).n (clsF (n + 1) f) ≠ 0
    · have HKV : Hid (cnfK (n + 1) f = 2) := Lib.hid (by rw [HKK.out, if_neg (by rw [HHI.out]; simp), if_pos hbad])
      by_cases hlong : 8192 < (makF (n + 1) f).n
      · have hli : (8192 : Int) < ((makF (n + 1) f).n : Int) := by omega
        clear hbad hlong HKK HHI
        obtain ⟨r0, r1, r2, rf⟩ := HR6.out
        go_wp2_with (at_builtin; refine Lib.wpList_append_run _ rfl _ _ _ _ rfl _ _ rfl rfl _ _ (hr6 _) ?_)
        clear r0 r1 r2 rf
        refine bodyPost_ret (v := .tuple #[.agg #[.int .i64 0, .slice none 0 0, .slice none 0 0], .int .i64 2]) ?_ rfl ⟨fun _ => by rw [HKV.out], fun h => absurd h (by rw [HKV.out]; decide), below3 HB6.out (Nat.le_succ _) _ _ _⟩
        obtain ⟨e0, e1, e2⟩ := res3 HR6.out (.int .i64 0) (.slice none 0 0) (.slice none 0 0)
        simp [results, Tryd.results10, go_sem, e0, e1, e2]
      · have hli : decide ((8192 : Int) < ((makF (n + 1) f).n : Int)) = false := decide_eq_false (by omega)
        have hck := hbad.resolve_left hlong
        clear hbad hlong HKK HHI
        generalize Prp.chkK (makF (n + 1) f).n (clsF (n + 1) f) = kk at *
        have hne : (kk != 0) = true := by simp [hck]
        obtain ⟨r0, r1, r2, rf⟩ := HR6.out
        go_wp2_with (at_builtin; refine Lib.wpList_append_run _ rfl _ _ _ _ rfl _ _ rfl rfl _ _ (hr6 _) ?_)
        refine HRC.out.mono ?_
        rintro e w7 ⟨rfl, rfl⟩
        go_wp2_with fail
        clear r0 r1 r2 rf
        refine bodyPost_ret (v := .tuple #[.agg #[.int .i64 0, .slice none 0 0, .slice none 0 0], .int .i64 2]) ?_ rfl ⟨fun _ => by rw [HKV.out], fun h => absurd h (by rw [HKV.out]; decide), below3 HB6.out (Nat.le_succ _) _ _ _⟩
        obtain ⟨e0, e1, e2⟩ := res3 HR6.out (.int .i64 0) (.slice none 0 0) (.slice none 0 0)
        simp [results, Tryd.results10, go_sem, e0, e1, e2]
    · have HKV : Hid (cnfK (n + 1) f = 0) := Lib.hid (by rw [HKK.out, if_neg (by rw [HHI.out]; simp), if_neg hbad])
      have hli : decide ((8192 : Int) < ((makF (n + 1) f).n : Int)) = false := decide_eq_false (by omega)
      have hck : Prp.chkK (makF (n + 1) f).n (clsF (n + 1) f) = 0 := Classical.byContradiction fun h => hbad (.inr h)
      rw [hck] at HRC
      clear hbad HKK HHI hck
      obtain ⟨r0, r1, r2, rf⟩ := HR6.out
      go_wp2_with (at_builtin; refine Lib.wpList_append_run _ rfl _ _ _ _ rfl _ _ rfl rfl _ _ (hr6 _) ?_)
      refine HRC.out.mono ?_
      rintro e w7 ⟨rfl, rfl⟩
      go_wp2_with fail
      clear r0 r1 r2 rf
      refine bodyPost_ret (v := .tuple #[.agg #[.int .i64 (makF (n + 1) f).n, .slice aa al ac, .slice a6 cln c6], .int .i64 0]) ?_ rfl ⟨fun h => absurd HKV.out h, fun h => ⟨aa, ac, a6, c6, by rw [← HAL.out, ← HCN.out], ?_, ?_⟩, below3 HB6.out (Nat.le_succ _) _ _ _⟩
      · obtain ⟨e0, e1, e2⟩ := res3 HR6.out (.int .i64 (makF (n + 1) f).n) (.slice aa al ac) (.slice a6 cln c6)
        simp [results, Tryd.results10, go_sem, e0, e1, e2]
      · exact HSA6.out.keep (fun b hb => by simpa [World.setCell] using hb.2) (fun b o hb => World.cell?_of_block (set3_block hb.1 _ _ _))
      · exact HS6.out.keep (fun b hb => by simpa [World.setCell] using hb.2) (fun b o hb => World.cell?_of_block (set3_block hb.1 _ _ _))
end Go.Proofs.YtelndcmfddbgiaaDoor

set_option linter.unusedVariables false
set_option linter.unusedSimpArgs false
namespace Go.Proofs.YtelndcmfddbgiaaDoor
set_option maxRecDepth 100000
open Go.RowKit

theorem flies_leafU (B : Nat) (w : World) (k c : Int) (t : List (Int × Int)) (ta : Option Addr) (tcap : Nat) (ht : t.length ≤ 9223372036854775807) (h : Lies B w ta t) : FLies B w 1 (.mk k c t []) [.int .i64 k, .int .i64 c, .slice ta t.length tcap, .slice none 0 0] :=
  ⟨ta, tcap, none, 0, rfl, h, ht, Nat.zero_le _, fun i hi => absurd hi (Nat.not_lt_zero i)⟩
def UpSaid9 : Prop := ∀ w : World, Tens w.heap.size w → Calls Tryd.prog 7 #[] w fun e w' => e = .returned (.bool true) ∧ Below w.heap.size w w'
theorem ex_true : cnfK 1 (.mk 0 0 [] []) = 0 ∧ (makF 1 (.mk 0 0 [] [])).n = 1 ∧ (clsF 1 (.mk 0 0 [] [])).length = 2 := by decide
theorem ex_eq : cnfK 1 (.mk 3 0 [] []) = 5 := by decide
theorem Tryd.eqNilNil (w : World) : (binOp .eql 35 .nilIface .nilIface).run Tryd.prog w = .ok (.bool true) w := by simp [go_sem]
theorem up_said9 : UpSaid9 := fun w ht => by
  have HM1 := Lib.hid (make_any 1 (.mk 0 0 [] []) _ w (flies_leafU w.heap.size w 0 0 [] none 0 (Nat.zero_le _) (fun i hi => absurd hi (Nat.not_lt_zero i))) ht)
  have HM2 := Lib.hid (fun W (hb : Below w.heap.size w W) => make_any 1 (.mk 3 0 [] []) _ W (flies_leafU W.heap.size W 3 0 [] none 0 (Nat.zero_le _) (fun i hi => absurd hi (Nat.not_lt_zero i))) (ht.up (hb.mono (Nat.le_refl _)) hb.size))
  have q1 := fun W => Tryd.eqNilNil W
  have q2 := fun W => Prp.Tryd.eqCode 5 5 W
  clear ht
  go_enter Tryd.func7, Tryd.ntmps7
  go_wp2_with fail
  refine HM1.out.mono ?_
  rintro e w1 ⟨_, h2, hb1⟩
  obtain ⟨av, cv, rfl, K, Sa, Sc, k1, k2, k3, k4, k5, k6, k7, k8⟩ := h2 ex_true.1
  obtain ⟨aa, ac, rfl⟩ := k3.form
  obtain ⟨ca, cc, rfl⟩ := k6.form
  rw [ex_true.2.1, ex_true.2.2]
  generalize (atomsF 1 (.mk 0 0 [] [])).length = al
  have HA : Hid (Below w1.heap.size w1 (w1.alloc (.cells #[.int .i64 1, .slice aa al ac, .slice ca 2 cc] 33))) := (Below.refl _ _).alloc (Nat.le_refl _) _
  have hn1 := heap_alloc_new w1 (.cells #[.int .i64 1, .slice aa al ac, .slice ca 2 cc] 33)
  have HX : Hid ((w1.alloc (.cells #[.int .i64 1, .slice aa al ac, .slice ca 2 cc] 33)).cell? ⟨w1.heap.size, 0, none⟩ = some (.int .i64 1) ∧ (w1.alloc (.cells #[.int .i64 1, .slice aa al ac, .slice ca 2 cc] 33)).cell? ⟨w1.heap.size, 2, none⟩ = some (.slice ca 2 cc)) := Lib.hid ⟨(cell_of_row _ _ _ _ _ _ hn1).trans rfl, (cell_of_row _ _ _ _ _ _ hn1).trans rfl⟩
  have hz : w1.heap.size < (w1.alloc (.cells #[.int .i64 1, .slice aa al ac, .slice ca 2 cc] 33)).heap.size := by simp
  have HZ := Lib.hid hz
  have HB1 := Lib.hid hb1
  have HB2 := Lib.hid (hb1.trans (HA.out.mono hb1.size))
  have HM3 := Lib.hid (HM2.out _ HB2.out)
  clear h2 k1 k2 k3 k4 k5 k6 k7 k8 hn1 hb1 hz HM1 HM2
  go_wp2_with fail
  generalize w1.alloc (.cells #[.int .i64 1, .slice aa al ac, .slice ca 2 cc] 33) = W2 at *
  refine HM3.out.mono ?_
  rintro e w3 ⟨h1, _, hb3⟩
  have e3 := h1 (by rw [ex_eq]; decide)
  rw [ex_eq] at e3
  subst e3
  have x0 := (hb3.cell (p := ⟨w1.heap.size, 0, none⟩) HZ.out).trans HX.out.1
  have x2 := (hb3.cell (p := ⟨w1.heap.size, 2, none⟩) HZ.out).trans HX.out.2
  have hA4 : Below w3.heap.size w3 (w3.alloc (.cells #[.int .i64 0, .slice none 0 0, .slice none 0 0] 33)) := (Below.refl _ _).alloc (Nat.le_refl _) _
  have hz3 : w1.heap.size < w3.heap.size := Nat.lt_of_lt_of_le HZ.out hb3.size
  have y0 := (hA4.cell (p := ⟨w1.heap.size, 0, none⟩) hz3).trans x0
  have y2 := (hA4.cell (p := ⟨w1.heap.size, 2, none⟩) hz3).trans x2
  have HE := Lib.hid (HB2.out.trans ((hb3.trans (hA4.mono hb3.size)).mono HB2.out.size))
  clear h1 hb3 hA4 hz3 x0 x2 HM3 HX HZ HA
  go_wp2_with fail
  go_ret
  exact ⟨rfl, HE.out⟩
theorem small_any (n : Nat) (f : FT) (cs : List Value) (w : World) (h : FLies w.heap.size w n f cs) :
    Calls Tryd.prog 8 #[.agg cs.toArray] w fun e w' => ∃ b : Bool, e = .returned (.bool b) ∧ Below w.heap.size w w' := by
  have FL := fun W (hb : Below w.heap.size w W) => (h.below hb).mono hb.size
  cases n with
  | zero => exact h.elim
  | succ n =>
    obtain ⟨ta, tcap, ka, kcap, rfl, _⟩ := h
    have T0 := Lib.hid (box_start w f.kind f.c ta ka f.t.length tcap f.ks.length kcap)
    have hl := Lib.hid (fun W hb => light_any (n + 1) f _ 1500 200 W (by omega) (by omega) (by omega) (by omega) (FL W hb))
    clear FL
    generalize f.kind = fk at T0 hl
    generalize f.c = fc at T0 hl
    generalize f.t.length = ft at T0 hl
    generalize f.ks.length = fl at T0 hl
    go_enter Tryd.func8, Tryd.ntmps8
    go_wp2_with fail
    refine (hl.out _ T0.out.bel).mono ?_
    rintro e w1 ⟨v, rfl, hv1, hv2, hb1⟩
    have T1 := Lib.hid (T0.out.below hb1 T0.out.lt)
    clear hb1
    go_wp2_with fail
    go_ret
    exact ⟨_, rfl, T1.out.bel⟩
/-- Forms that lie. -/
def LLies (B : Nat) (w : World) (a : Option Addr) (ls : List (Int × List (Int × Int))) : Prop :=
  ∀ i, i < ls.length → ∃ b off ta tcap, a = some ⟨b, off, none⟩ ∧ b < B ∧ w.cell? ⟨b, off + i * 2, none⟩ = some (.int .i64 (ls.getD i (0, [])).1) ∧ w.cell? ⟨b, off + i * 2 + 1, none⟩ = some (.slice ta (ls.getD i (0, [])).2.length tcap) ∧ Lies B w ta (ls.getD i (0, [])).2
theorem llies_of {S : Nat → Prop} {w : World} {a : Option Addr} {ls : List (Int × List (Int × Int))} {B : Nat} (h : Pak.Sits linSh S w a ls) (hS : ∀ b, S b → b < B) : LLies B w a ls := fun i hi => by
  obtain ⟨b, off, us, e, hb, hc, ta, cap, rfl, hn⟩ := h.2 i hi
  have e1 : linSh.k = 2 := rfl
  have c0 := hc 0 _ rfl
  have c1 := hc 1 _ rfl
  rw [e1, Nat.add_zero] at c0
  rw [e1] at c1
  rw [List.getD_eq_getElem?_getD, List.getElem?_eq_getElem hi, Option.getD_some]
  exact ⟨b, off, ta, cap, e, hS b hb, c0, c1, hn.lies hS⟩
theorem LLies.below {B : Nat} {w w' : World} {a : Option Addr} {ls : List (Int × List (Int × Int))} (h : LLies B w a ls) (hb : Below B w w') : LLies B w' a ls := fun i hi => by
  obtain ⟨b, off, ta, tcap, e, hlt, c0, c1, hl⟩ := h i hi
  exact ⟨b, off, ta, tcap, e, hlt, (hb.cell (p := ⟨b, off + i * 2, none⟩) hlt).trans c0, (hb.cell (p := ⟨b, off + i * 2 + 1, none⟩) hlt).trans c1, hl.below hb⟩
theorem LLies.mono {B B' : Nat} {w : World} {a : Option Addr} {ls : List (Int × List (Int × Int))} (h : LLies B w a ls) (hb : B ≤ B') : LLies B' w a ls := fun i hi => by
  obtain ⟨b, off, ta, tcap, e, hlt, c0, c1, hl⟩ := h i hi
  exact ⟨b, off, ta, tcap, e, Nat.lt_of_lt_of_le hlt hb, c0, c1, hl.mono hb⟩
end Go.Proofs.YtelndcmfddbgiaaDoor
