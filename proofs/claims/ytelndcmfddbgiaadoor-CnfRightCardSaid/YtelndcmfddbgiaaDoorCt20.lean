/- The values of a formula's parts, by the document: told, of lists. The values of a formula's parts, by the document: told, of lists. The document's clauses: rows while they are joined. -/
import Derived.Test.YtelndcmfddbgiaaDoorCt10
import Derived.Test.YtelndcmfddbgiaaDoorCt19
set_option linter.unusedVariables false
set_option linter.unusedSimpArgs false
set_option linter.unusedVariables false
set_option linter.unusedSimpArgs false
namespace Go.Proofs.YtelndcmfddbgiaaDoor
set_option maxRecDepth 100000
open Go.RowKit

set_option maxHeartbeats 16000000 in
theorem told_5 (a2 : Option Addr) (n2 cap2 : Nat) (zs : List Int) (B : Nat) (n : Nat) (IH : ToldSaid a2 n2 cap2 zs B n) (f : FT) (cs : List Value) (w : World) (h : FLies B w (n + 1) f cs) (hB : B ≤ w.heap.size) (hz : Nums B w a2 zs) (hm : madeF (n + 1) f = true) (hsz : siz (n + 1) f ≤ 100000) (hk : f.kind = 5) :
    Calls Tryd.prog 37 #[.agg cs.toArray, .slice a2 n2 cap2] w (TEnd (tF zs (n + 1) f) w) := by
  obtain ⟨ta, tcap, ka, kcap, rfl, hT, hl1, hl2, hks⟩ := h
  rw [tF_x (by omega)]
  simp only [hk]
  have hA : Below w.heap.size w (w.alloc (.cells #[.int .i64 f.kind, .int .i64 f.c, .slice ta f.t.length tcap, .slice ka f.ks.length kcap] 27)) := (Below.refl _ w).alloc (Nat.le_refl _) _
  have HB := box_start w f.kind f.c ta ka f.t.length tcap f.ks.length kcap
  have HM := Lib.hid (made_kids hm)
  have HTL := Lib.hid (tTo_len zs n f.ks (made_kids hm))
  have HI := Lib.hid IH
  have HK := Lib.hid hks
  have HA := Lib.hid hA
  have HZ := Lib.hid hz
  have HBB := Lib.hid hB
  have hq1 : (w.alloc (.cells #[.int .i64 f.kind, .int .i64 f.c, .slice ta f.t.length tcap, .slice ka f.ks.length kcap] 27)).heap.size = w.heap.size + 1 := by simp
  have HQ1 := Lib.hid hq1
  have hszl := sizTo_len n f
  rw [hszl] at hsz
  have HSZ := Lib.hid hsz
  have b0 := HB.c0
  have b3 := HB.c3
  rw [hk] at *
  clear IH hks hT hz hA HB hm hszl hsz hB hq1 hl1 hk
  generalize f.c = fc at *
  generalize f.t.length = ft at *
  generalize hlen : f.ks.length = len at *
  have HLEN := Lib.hid hlen
  clear hlen
  go_enter Tryd.func37, Tryd.ntmps37
  go_wp2_with fail
  generalize w.alloc (.cells #[.int .i64 5, .int .i64 fc, .slice ta ft tcap, .slice ka len kcap] 27) = W1 at *
  have HX0 := Lib.hid b0
  have HX3 := Lib.hid b3
  clear b0 b3
  go_loopw [10, 11, 12, 13] (fun o al so i wr => ∃ (k ol oc : Nat) (oa : Option Addr), i = .int .i64 k ∧ k ≤ len ∧ al = .bool (tTo zs n f.ks k).2.1 ∧ so = .bool (tTo zs n f.ks k).2.2 ∧ o = .slice oa ol oc ∧ ol = (tTo zs n f.ks k).1.length ∧ Hid (BoRow W1.heap.size (tTo zs n f.ks k).1 (.slice oa ol oc) wr) ∧ Hid (Below W1.heap.size W1 wr)) (fun _ _ _ i _ => len - (intOf i).toNat)
  case atStart => exact ⟨0, 0, 0, none, rfl, Nat.zero_le _, rfl, rfl, rfl, rfl, BoRow.nil _ _, Below.refl _ _⟩
  case round =>
    obtain ⟨k, ol, oc, oa, rfl, hk, rfl, rfl, rfl, hol, hR, hb⟩ := hrel
    have HOL := Lib.hid hol
    clear hol
    have hlt1 : w.heap.size < W1.heap.size := by have := HQ1.out; omega
    have x0 := (hb.out.cell (p := ⟨w.heap.size, 0, none⟩) hlt1).trans HX0.out
    have x3 := (hb.out.cell (p := ⟨w.heap.size, 3, none⟩) hlt1).trans HX3.out
    have hbw : Below w.heap.size w wr := HA.out.trans (hb.out.mono HA.out.size)
    have HBW := Lib.hid hbw
    have HL1 := Lib.hid hlt1
    clear hbw hlt1
    by_cases hlt : k < len
    · have hlti : (k : Int) < (len : Int) := by omega
      have hkl : k < f.ks.length := by rw [HLEN.out]; exact hlt
      obtain ⟨b, off, c0, c1, c2, c3, rfl, hbl, g0, g1, g2, g3, hf⟩ := HK.out k hlt
      have hblw : b < w.heap.size := Nat.lt_of_lt_of_le hbl HBB.out
      rw [← HBW.out.cell (p := ⟨b, _, none⟩) hblw] at g0 g1 g2 g3
      obtain ⟨ck, cc, cta, ctn, ctcap, cka, ckn, ckcap, rfl, rfl, rfl, rfl⟩ := hf.form
      have hmk := HM.out k hlt
      have hs1 := sizTo_succ n f.ks k hkl
      have hs2 := sizTo_mono n f.ks (i := k + 1) (j := f.ks.length) hkl
      have hl := HLEN.out
      have hsz := HSZ.out
      have htl := HTL.out k (by omega)
      rw [hl] at hs2
      have HIH := Lib.hid (HI.out (f.ks.getD k default) _ wr (hf.below (HBW.out.mono HBB.out)) (Nat.le_trans HBB.out HBW.out.size) (HZ.out.below (HBW.out.mono HBB.out)) hmk (by omega))
      have hfl := tF_len zs n (f.ks.getD k default) hmk
      have HFL := Lib.hid (show ol + (tF zs n (f.ks.getD k default)).1.length ≤ 200000 by rw [HOL.out]; omega)
      have HTS := Lib.hid (tTo_succ zs n f.ks k hkl)
      generalize tF zs n (f.ks.getD k default) = q at *
      generalize tTo zs n f.ks k = p at *
      obtain ⟨p1, p2, p3⟩ := p
      obtain ⟨q1, q2⟩ := q
      clear hmk hs1 hs2 hl hsz htl hfl hf hbl hblw hkl
      go_wp2_with fail
      clear g0 g1 g2 g3 x0 x3
      refine HIH.out.mono ?_
      rintro e w3 ⟨a3, n3, c3, rfl, hn3, hr3, hb3⟩
      obtain ⟨a3', c3', e3, hbo⟩ := hr3.bools
      injection e3 with e31 e32 e33
      subst e31
      clear e32 e33
      have hsz1 : W1.heap.size ≤ w3.heap.size := Nat.le_trans hb.out.size hb3.size
      obtain ⟨v4, w4, hr4, hO4, hg4⟩ := bo_cat (cap := c3) (hR.out.below hb3) hbo hsz1 (by
        show p1.length + q1.length ≤ _
        have h : ol + q1.length ≤ 200000 := HFL.out
        have h2 : ol = p1.length := HOL.out
        omega)
      rw [← hn3] at hr4
      obtain ⟨a4, c4, e4⟩ := hO4.form
      generalize hl4 : (p1 ++ q1).length = l4 at e4
      subst e4
      have HB4 : Hid (Below W1.heap.size W1 w4) := Lib.hid ((hb.out.trans (hb3.mono hb.out.size)).grown hg4 hsz1 (fun g hg => (World.ownsRow.lt hR.out g hg).1))
      have HR4 : Hid (BoRow W1.heap.size (p1 ++ q1) (.slice a4 l4 c4) w4) := Lib.hid hO4
      have HL4 := Lib.hid hl4
      clear hl4 hn3 hsz1
      clear hr3 hbo hO4 hg4 hb3 HIH hR hb
      cases p2 <;> cases p3 <;> cases q2
      all_goals
        go_wp2_with (at_builtin; refine Lib.wpList_append_run _ rfl _ _ _ _ rfl _ _ rfl rfl _ _ (hr4 _) ?_)
        go_roundw
        case rel => exact ⟨k + 1, l4, c4, a4, by go_num, by omega, by rw [HTS.out]; rfl, by rw [HTS.out]; rfl, rfl, by rw [HTS.out]; exact HL4.out.symm, by rw [HTS.out]; exact HR4, HB4⟩
        case measure => simp [intOf]; omega
    · have hlti : ¬ (k : Int) < (len : Int) := by omega
      obtain rfl : k = len := by omega
      have htl := HTL.out k (Nat.le_refl _)
      have hsz := HSZ.out
      obtain ⟨p, hp⟩ : ∃ p, p = tTo zs n f.ks k := ⟨_, rfl⟩
      have HP := Lib.hid hp
      rw [← hp] at hR HOL htl ⊢
      clear hp
      have hR2 := hR.out
      obtain ⟨a6, n6, c6, w6, hn6, hr6, hO6, hB6⟩ := bo_snoc p.2.1 hR2 hb.out.size (by rw [← HOL.out] at htl ⊢; omega)
      have HE : Hid (TEnd (p.1 ++ [p.2.1], p.2.1) w (.returned (.tuple #[.slice a6 n6 c6, .bool p.2.1])) w6) := Lib.hid ⟨_, _, _, rfl, by rw [hn6, List.length_append]; rfl, hO6.lower HA.out.size, HA.out.trans ((hb.out.trans (hB6.mono (Nat.le_refl _))).mono HA.out.size)⟩
      have HN6 := Lib.hid hn6
      clear hR hR2 hO6 hB6 hb htl hsz hn6
      go_wp2_with (at_builtin; refine Lib.wpList_append_run _ rfl _ _ _ _ rfl _ _ rfl rfl _ _ (hr6 _) ?_)
      go_ret2
      rw [← HP.out]
      exact HE.out
end Go.Proofs.YtelndcmfddbgiaaDoor

set_option linter.unusedVariables false
set_option linter.unusedSimpArgs false
namespace Go.Proofs.YtelndcmfddbgiaaDoor
set_option maxRecDepth 100000
open Go.RowKit

set_option maxHeartbeats 16000000 in
theorem told_6 (a2 : Option Addr) (n2 cap2 : Nat) (zs : List Int) (B : Nat) (n : Nat) (IH : ToldSaid a2 n2 cap2 zs B n) (f : FT) (cs : List Value) (w : World) (h : FLies B w (n + 1) f cs) (hB : B ≤ w.heap.size) (hz : Nums B w a2 zs) (hm : madeF (n + 1) f = true) (hsz : siz (n + 1) f ≤ 100000) (hk : f.kind = 6) :
    Calls Tryd.prog 37 #[.agg cs.toArray, .slice a2 n2 cap2] w (TEnd (tF zs (n + 1) f) w) := by
  obtain ⟨ta, tcap, ka, kcap, rfl, hT, hl1, hl2, hks⟩ := h
  rw [tF_x (by omega)]
  simp only [hk]
  have hA : Below w.heap.size w (w.alloc (.cells #[.int .i64 f.kind, .int .i64 f.c, .slice ta f.t.length tcap, .slice ka f.ks.length kcap] 27)) := (Below.refl _ w).alloc (Nat.le_refl _) _
  have HB := box_start w f.kind f.c ta ka f.t.length tcap f.ks.length kcap
  have HM := Lib.hid (made_kids hm)
  have HTL := Lib.hid (tTo_len zs n f.ks (made_kids hm))
  have HI := Lib.hid IH
  have HK := Lib.hid hks
  have HA := Lib.hid hA
  have HZ := Lib.hid hz
  have HBB := Lib.hid hB
  have hq1 : (w.alloc (.cells #[.int .i64 f.kind, .int .i64 f.c, .slice ta f.t.length tcap, .slice ka f.ks.length kcap] 27)).heap.size = w.heap.size + 1 := by simp
  have HQ1 := Lib.hid hq1
  have hszl := sizTo_len n f
  rw [hszl] at hsz
  have HSZ := Lib.hid hsz
  have b0 := HB.c0
  have b3 := HB.c3
  rw [hk] at *
  clear IH hks hT hz hA HB hm hszl hsz hB hq1 hl1 hk
  generalize f.c = fc at *
  generalize f.t.length = ft at *
  generalize hlen : f.ks.length = len at *
  have HLEN := Lib.hid hlen
  clear hlen
  go_enter Tryd.func37, Tryd.ntmps37
  go_wp2_with fail
  generalize w.alloc (.cells #[.int .i64 6, .int .i64 fc, .slice ta ft tcap, .slice ka len kcap] 27) = W1 at *
  have HX0 := Lib.hid b0
  have HX3 := Lib.hid b3
  clear b0 b3
  go_loopw [10, 11, 12, 13] (fun o al so i wr => ∃ (k ol oc : Nat) (oa : Option Addr), i = .int .i64 k ∧ k ≤ len ∧ al = .bool (tTo zs n f.ks k).2.1 ∧ so = .bool (tTo zs n f.ks k).2.2 ∧ o = .slice oa ol oc ∧ ol = (tTo zs n f.ks k).1.length ∧ Hid (BoRow W1.heap.size (tTo zs n f.ks k).1 (.slice oa ol oc) wr) ∧ Hid (Below W1.heap.size W1 wr)) (fun _ _ _ i _ => len - (intOf i).toNat)
  case atStart => exact ⟨0, 0, 0, none, rfl, Nat.zero_le _, rfl, rfl, rfl, rfl, BoRow.nil _ _, Below.refl _ _⟩
  case round =>
    obtain ⟨k, ol, oc, oa, rfl, hk, rfl, rfl, rfl, hol, hR, hb⟩ := hrel
    have HOL := Lib.hid hol
    clear hol
    have hlt1 : w.heap.size < W1.heap.size := by have := HQ1.out; omega
    have x0 := (hb.out.cell (p := ⟨w.heap.size, 0, none⟩) hlt1).trans HX0.out
    have x3 := (hb.out.cell (p := ⟨w.heap.size, 3, none⟩) hlt1).trans HX3.out
    have hbw : Below w.heap.size w wr := HA.out.trans (hb.out.mono HA.out.size)
    have HBW := Lib.hid hbw
    have HL1 := Lib.hid hlt1
    clear hbw hlt1
    by_cases hlt : k < len
    · have hlti : (k : Int) < (len : Int) := by omega
      have hkl : k < f.ks.length := by rw [HLEN.out]; exact hlt
      obtain ⟨b, off, c0, c1, c2, c3, rfl, hbl, g0, g1, g2, g3, hf⟩ := HK.out k hlt
      have hblw : b < w.heap.size := Nat.lt_of_lt_of_le hbl HBB.out
      rw [← HBW.out.cell (p := ⟨b, _, none⟩) hblw] at g0 g1 g2 g3
      obtain ⟨ck, cc, cta, ctn, ctcap, cka, ckn, ckcap, rfl, rfl, rfl, rfl⟩ := hf.form
      have hmk := HM.out k hlt
      have hs1 := sizTo_succ n f.ks k hkl
      have hs2 := sizTo_mono n f.ks (i := k + 1) (j := f.ks.length) hkl
      have hl := HLEN.out
      have hsz := HSZ.out
      have htl := HTL.out k (by omega)
      rw [hl] at hs2
      have HIH := Lib.hid (HI.out (f.ks.getD k default) _ wr (hf.below (HBW.out.mono HBB.out)) (Nat.le_trans HBB.out HBW.out.size) (HZ.out.below (HBW.out.mono HBB.out)) hmk (by omega))
      have hfl := tF_len zs n (f.ks.getD k default) hmk
      have HFL := Lib.hid (show ol + (tF zs n (f.ks.getD k default)).1.length ≤ 200000 by rw [HOL.out]; omega)
      have HTS := Lib.hid (tTo_succ zs n f.ks k hkl)
      generalize tF zs n (f.ks.getD k default) = q at *
      generalize tTo zs n f.ks k = p at *
      obtain ⟨p1, p2, p3⟩ := p
      obtain ⟨q1, q2⟩ := q
      clear hmk hs1 hs2 hl hsz htl hfl hf hbl hblw hkl
      go_wp2_with fail
      clear g0 g1 g2 g3 x0 x3
      refine HIH.out.mono ?_
      rintro e w3 ⟨a3, n3, c3, rfl, hn3, hr3, hb3⟩
      obtain ⟨a3', c3', e3, hbo⟩ := hr3.bools
      injection e3 with e31 e32 e33
      subst e31
      clear e32 e33
      have hsz1 : W1.heap.size ≤ w3.heap.size := Nat.le_trans hb.out.size hb3.size
      obtain ⟨v4, w4, hr4, hO4, hg4⟩ := bo_cat (cap := c3) (hR.out.below hb3) hbo hsz1 (by
        show p1.length + q1.length ≤ _
        have h : ol + q1.length ≤ 200000 := HFL.out
        have h2 : ol = p1.length := HOL.out
        omega)
      rw [← hn3] at hr4
      obtain ⟨a4, c4, e4⟩ := hO4.form
      generalize hl4 : (p1 ++ q1).length = l4 at e4
      subst e4
      have HB4 : Hid (Below W1.heap.size W1 w4) := Lib.hid ((hb.out.trans (hb3.mono hb.out.size)).grown hg4 hsz1 (fun g hg => (World.ownsRow.lt hR.out g hg).1))
      have HR4 : Hid (BoRow W1.heap.size (p1 ++ q1) (.slice a4 l4 c4) w4) := Lib.hid hO4
      have HL4 := Lib.hid hl4
      clear hl4 hn3 hsz1
      clear hr3 hbo hO4 hg4 hb3 HIH hR hb
      cases p2 <;> cases p3 <;> cases q2
      all_goals
        go_wp2_with (at_builtin; refine Lib.wpList_append_run _ rfl _ _ _ _ rfl _ _ rfl rfl _ _ (hr4 _) ?_)
        go_roundw
        case rel => exact ⟨k + 1, l4, c4, a4, by go_num, by omega, by rw [HTS.out]; rfl, by rw [HTS.out]; rfl, rfl, by rw [HTS.out]; exact HL4.out.symm, by rw [HTS.out]; exact HR4, HB4⟩
        case measure => simp [intOf]; omega
    · have hlti : ¬ (k : Int) < (len : Int) := by omega
      obtain rfl : k = len := by omega
      have htl := HTL.out k (Nat.le_refl _)
      have hsz := HSZ.out
      obtain ⟨p, hp⟩ : ∃ p, p = tTo zs n f.ks k := ⟨_, rfl⟩
      have HP := Lib.hid hp
      rw [← hp] at hR HOL htl ⊢
      clear hp
      have hR2 := hR.out
      obtain ⟨a6, n6, c6, w6, hn6, hr6, hO6, hB6⟩ := bo_snoc p.2.2 hR2 hb.out.size (by rw [← HOL.out] at htl ⊢; omega)
      have HE : Hid (TEnd (p.1 ++ [p.2.2], p.2.2) w (.returned (.tuple #[.slice a6 n6 c6, .bool p.2.2])) w6) := Lib.hid ⟨_, _, _, rfl, by rw [hn6, List.length_append]; rfl, hO6.lower HA.out.size, HA.out.trans ((hb.out.trans (hB6.mono (Nat.le_refl _))).mono HA.out.size)⟩
      have HN6 := Lib.hid hn6
      clear hR hR2 hO6 hB6 hb htl hsz hn6
      go_wp2_with (at_builtin; refine Lib.wpList_append_run _ rfl _ _ _ _ rfl _ _ rfl rfl _ _ (hr6 _) ?_)
      go_ret2
      rw [← HP.out]
      exact HE.out
theorem told_any (a2 : Option Addr) (n2 cap2 : Nat) (zs : List Int) (hn2 : zs.length = n2) (hm2 : n2 ≤ 9223372036854775807) (B : Nat) : ∀ n, ToldSaid a2 n2 cap2 zs B n
  | 0 => fun f cs w h => h.elim
  | n + 1 => fun f cs w h hB hz hm hs => by
    rcases made_kind hm with hk | hk | hk | hk | hk | hk
    · exact told_0 a2 n2 cap2 zs B n f cs w h hk
    · exact told_1 a2 n2 cap2 zs B n f cs w h hk
    · exact told_2 a2 n2 cap2 zs hn2 hm2 B n f cs w h hB hz hm hk
    · exact told_4 a2 n2 cap2 zs B n (told_any a2 n2 cap2 zs hn2 hm2 B n) f cs w h hB hz hm hs hk
    · exact told_5 a2 n2 cap2 zs B n (told_any a2 n2 cap2 zs hn2 hm2 B n) f cs w h hB hz hm hs hk
    · exact told_6 a2 n2 cap2 zs B n (told_any a2 n2 cap2 zs hn2 hm2 B n) f cs w h hB hz hm hs hk
end Go.Proofs.YtelndcmfddbgiaaDoor

set_option linter.unusedVariables false
set_option linter.unusedSimpArgs false
namespace Go.Proofs.YtelndcmfddbgiaaDoor
set_option maxRecDepth 100000
open Go.RowKit

/-- The clauses, and the literals of the kids so far. -/
structure KR (K : Nat) (S : Nat → Prop) (W1 : World) (v0 : Value) (cl : List (List Int)) (ls : List Int) (v : Value) (S' : Nat → Prop) (o : Value) (wr : World) : Prop where
  rt : CTo K S' cl v0 W1 v wr
  sl : ∀ b, S' b → S b ∨ W1.heap.size ≤ b
  ow : IRow K ls o wr
  ob : ∀ q, o.ownBlock = some q → W1.heap.size ≤ q ∧ v.ownBlock ≠ some q ∧ ¬ S' q
theorem KR.start {K : Nat} {S : Nat → Prop} {W1 : World} {v0 : Value} {cl : List (List Int)} (h : CRow K S cl v0 W1) : KR K S W1 v0 cl [] v0 S (.slice none 0 0) W1 :=
  ⟨RowTo.refl h, fun b hb => .inl hb, OwnP.nil _ _ _ _, fun q hq => by cases hq⟩
theorem KR.step {K : Nat} {S : Nat → Prop} {W1 : World} {v0 : Value} {cl : List (List Int)} {ls : List Int} {v : Value} {S' : Nat → Prop} {o : Value} {wr : World} (h : KR K S W1 v0 cl ls v S' o wr) (hK : K ≤ wr.heap.size) {cl3 : List (List Int)} {v3 : Value} {S3 : Nat → Prop} {w3 : World} (hS3 : ∀ b, S3 b → S' b ∨ wr.heap.size ≤ b) (h3 : CTo K S3 cl3 v wr v3 w3) (hn : ls.length ≤ 100000) {x : Int} (hx : -9223372036854775808 ≤ x ∧ x ≤ 9223372036854775807) :
    ∃ a4 n4 c4 w4, (∀ ty, (Builtin.append_ #[45, 45] ty #[o, .slice (some ⟨w3.heap.size, 0, none⟩) 1 1]).run Tryd.prog (w3.alloc (.cells #[.int .i64 x] 3)) = .ok (.slice a4 n4 c4) w4) ∧ KR K S W1 v0 cl3 (ls ++ [x]) v3 S3 (.slice a4 n4 c4) w4 := by
  have hz := h.rt.2.1.size
  have ho3 : IRow K ls o w3 := h.ow.grown h3.2.1 (fun q e => ⟨fun h => h, fun e2 => (h.ob q e2).2.1 e⟩)
  have hz3 := h3.2.1.size
  obtain ⟨v4, w4, hr4, hO4, hg4, hv4⟩ := ho3.put (P := Tryd.prog) (t := 45) (x := x) (cs := [.int .i64 x]) (Sx := fun _ => False) Tryd.underlying45 (by' := 8) (by kernel_rfl) (by decide) (by decide) (by omega) (Nat.le_trans hK hz3) ⟨rfl, hx⟩ (fun b hb => hb.elim)
  have hfar : ∀ q, o.ownBlock = some q → W1.heap.size ≤ q ∧ ¬ S3 q ∧ v3.ownBlock ≠ some q := fun q e => by
    obtain ⟨q1, q2, q3⟩ := h.ob q e
    have q4 := (h.ow.lt q e).2
    refine ⟨q1, fun hh => ?_, fun hh => ?_⟩
    · rcases hS3 q hh with hh | hh
      · exact q3 hh
      · omega
    · rcases h3.2.2 with e2 | ⟨p, e2, hp⟩
      · exact q2 (e2.symm.trans hh)
      · rw [e2] at hh
        injection hh with hh; omega
  have hR4 := (h.rt.of h3).other hg4 hfar
  have hlt3 := h3.1.lt
  have hok3 := h3.1.ok
  obtain ⟨a4, c4, e4⟩ := hO4.form
  generalize hn4 : (ls ++ [x]).length = n4 at e4
  subst e4
  refine ⟨a4, n4, c4, w4, hr4, hR4, fun b hb => ?_, hO4.more (fun b hb => by rcases hb with hb | hb <;> exact hb) (fun b hb => hb.elim), fun q e => ?_⟩
  · rcases hS3 b hb with hb | hb
    · exact h.sl b hb
    · right; omega
  · rcases hv4 with hv4 | ⟨u, hv4, hu⟩
    · have := hfar q (hv4.symm.trans e)
      exact ⟨this.1, this.2.2, this.2.1⟩
    · rw [hv4] at e
      injection e with e
      subst e
      exact ⟨by omega, fun h => by have := (hlt3 _ h).2; omega, fun h => by have := (hok3 _ h).1; omega⟩
/-- The clauses, the kids' literals, the last clause so far. -/
structure JR (K : Nat) (S : Nat → Prop) (W1 : World) (v0 : Value) (cl : List (List Int)) (v : Value) (S' : Nat → Prop) (ko : Option Nat) (ka : Option Addr) (ks : List Int) (xs : List Int) (o : Value) (wr : World) : Prop where
  rt : CTo K S' cl v0 W1 v wr
  sl : ∀ b, S' b → S b ∨ W1.heap.size ≤ b
  kd : Pak.Sits Pak.intSh (fun b => ko = some b) wr ka ks
  kb : ∀ q, ko = some q → W1.heap.size ≤ q ∧ q < wr.heap.size ∧ v.ownBlock ≠ some q ∧ ¬ S' q
  ow : IRow K xs o wr
  ob : ∀ q, o.ownBlock = some q → W1.heap.size ≤ q ∧ v.ownBlock ≠ some q ∧ ¬ S' q ∧ ko ≠ some q
section
variable {K : Nat} {S : Nat → Prop} {W1 : World} {v0 : Value} {cl : List (List Int)} {v : Value} {S' : Nat → Prop} {ko : Option Nat} {ka : Option Addr} {ks : List Int} {xs : List Int} {o : Value} {wr : World}
/-- A clause is put behind the others. -/
theorem CRow.add (h : CTo K S' cl v0 W1 v wr) (hK : K ≤ wr.heap.size) (hn : cl.length ≤ 4000000) {Sx : Nat → Prop} {a : Option Addr} {n cap : Nat} {zs : List Int} (hzn : zs.length = n) (hz : Pak.Sits Pak.intSh Sx wr a zs) (hSx : ∀ b, Sx b → b < wr.heap.size ∧ v.ownBlock ≠ some b) :
    ∃ a6 n6 c6 w6, (∀ ty, (Builtin.append_ #[31, 31] ty #[v, .slice (some ⟨wr.heap.size, 0, none⟩) 1 1]).run Tryd.prog (wr.alloc (.cells #[.slice a n cap] 45)) = .ok (.slice a6 n6 c6) w6) ∧ CTo K (fun b => S' b ∨ Sx b) (cl ++ [zs]) v0 W1 (.slice a6 n6 c6) w6 ∧ wr.grownBy w6 v.ownBlock ∧ ((Value.slice a6 n6 c6).ownBlock = v.ownBlock ∨ ∃ q, (Value.slice a6 n6 c6).ownBlock = some q ∧ wr.heap.size ≤ q) := by
  subst hzn
  obtain ⟨v6, w6, hr, k1, k2, k3⟩ := h.1.put (P := Tryd.prog) (t := 31) (x := zs) (cs := [.slice a zs.length cap]) (Sx := Sx) Tryd.underlying31 (by' := 24) (by kernel_rfl) (by decide) (by decide) (by omega) hK ⟨_, rfl, a, cap, rfl, hz⟩ hSx
  have hT : CTo K (fun b => S' b ∨ Sx b) (cl ++ [zs]) v0 W1 v6 w6 := h.of ⟨k1, k2, k3⟩
  obtain ⟨a6, c6, e6⟩ := k1.form
  generalize (cl ++ [zs]).length = n6 at e6
  subst e6
  exact ⟨a6, n6, c6, w6, hr, hT, k2, k3⟩
theorem JR.below (h : JR K S W1 v0 cl v S' ko ka ks xs o wr) {w' : World} (hb : Below wr.heap.size wr w') : JR K S W1 v0 cl v S' ko ka ks xs o w' :=
  ⟨h.rt.after hb, h.sl, h.kd.on hb (fun b e => (h.kb b e).2.1), fun q e => ⟨(h.kb q e).1, Nat.lt_of_lt_of_le (h.kb q e).2.1 hb.size, (h.kb q e).2.2⟩, h.ow.below hb, h.ob⟩
/-- One more clause. -/
theorem JR.clause (h : JR K S W1 v0 cl v S' ko ka ks xs o wr) (hK : K ≤ W1.heap.size) (hn : cl.length ≤ 4000000) (zs : List Int) (hzi : ∀ x ∈ zs, -9223372036854775808 ≤ x ∧ x ≤ 9223372036854775807) (hzl : zs.length ≤ 9223372036854775807) (n cap : Nat) (hzn : zs.length = n) :
    ∃ a6 n6 c6 w6, (∀ ty, (Builtin.append_ #[31, 31] ty #[v, .slice (some ⟨wr.heap.size + 1, 0, none⟩) 1 1]).run Tryd.prog ((wr.alloc (.cells (zs.map (Value.int .i64)).toArray 3)).alloc (.cells #[.slice (some ⟨wr.heap.size, 0, none⟩) n cap] 45)) = .ok (.slice a6 n6 c6) w6) ∧ JR K S W1 v0 (cl ++ [zs]) (.slice a6 n6 c6) (fun b => S' b ∨ b = wr.heap.size) ko ka ks xs o w6 := by
  have hA : Below wr.heap.size wr (wr.alloc (.cells (zs.map (Value.int .i64)).toArray 3)) := (Below.refl _ _).alloc (Nat.le_refl _) _
  have hz : (wr.alloc (.cells (zs.map (Value.int .i64)).toArray 3)).heap.size = wr.heap.size + 1 := by simp
  have hJ := h.below hA
  have hW := h.rt.2.1.size
  have hvl := fun q e => (h.rt.1.lt q e).2
  obtain ⟨a6, n6, c6, w6, hr, k1, k2, k3⟩ := CRow.add hJ.rt (by omega) hn (cap := cap) hzn (ints_new wr zs hzi hzl) (fun b e => ⟨by omega, fun e2 => by have := hvl b e2; omega⟩)
  rw [hz] at hr k3
  refine ⟨a6, n6, c6, w6, hr, k1, fun b hb => ?_, hJ.kd.past k2 (fun b e => ⟨(hJ.kb b e).2.1, fun e2 => (hJ.kb b e).2.2.1 e2.symm⟩), fun q e => ?_, hJ.ow.grown k2 (fun q e => ⟨fun h => h, fun e2 => (hJ.ob q e2).2.1 e⟩), fun q e => ?_⟩
  · rcases hb with hb | hb
    · exact h.sl b hb
    · right; omega
  · obtain ⟨e1, e2, e3, e4⟩ := h.kb q e
    refine ⟨e1, by have := k2.size; omega, fun e5 => ?_, fun e5 => ?_⟩
    · rcases k3 with k3 | ⟨p, k3, hp⟩
      · exact e3 (k3.symm.trans e5)
      · rw [k3] at e5; injection e5 with e5; omega
    · rcases e5 with e5 | e5
      · exact e4 e5
      · omega
  · obtain ⟨e1, e2, e3, e4⟩ := h.ob q e
    have e6 := (h.ow.lt q e).2
    refine ⟨e1, fun e5 => ?_, fun e5 => ?_, e4⟩
    · rcases k3 with k3 | ⟨p, k3, hp⟩
      · exact e2 (k3.symm.trans e5)
      · rw [k3] at e5; injection e5 with e5; omega
    · rcases e5 with e5 | e5
      · exact e3 e5
      · omega
/-- One more literal in the last clause. -/
theorem JR.last (h : JR K S W1 v0 cl v S' ko ka ks xs o wr) (hK : K ≤ W1.heap.size) (hn : xs.length ≤ 4000000) {x : Int} (hx : -9223372036854775808 ≤ x ∧ x ≤ 9223372036854775807) :
    ∃ a6 n6 c6 w6, (∀ ty, (Builtin.append_ #[45, 45] ty #[o, .slice (some ⟨wr.heap.size, 0, none⟩) 1 1]).run Tryd.prog (wr.alloc (.cells #[.int .i64 x] 3)) = .ok (.slice a6 n6 c6) w6) ∧ JR K S W1 v0 cl v S' ko ka ks (xs ++ [x]) (.slice a6 n6 c6) w6 := by
  have hW := h.rt.2.1.size
  obtain ⟨v6, w6, hr, k1, k2, k3⟩ := h.ow.put (P := Tryd.prog) (t := 45) (x := x) (cs := [.int .i64 x]) (Sx := fun _ => False) Tryd.underlying45 (by' := 8) (by kernel_rfl) (by decide) (by decide) (by omega) (by omega) ⟨rfl, hx⟩ (fun b hb => hb.elim)
  have hR := h.rt.other k2 (fun q e => ⟨(h.ob q e).1, (h.ob q e).2.2.1, (h.ob q e).2.1⟩)
  have hvl := h.rt.1.lt
  have hok := h.rt.1.ok
  obtain ⟨a6, c6, e6⟩ := k1.form
  generalize (xs ++ [x]).length = n6 at e6
  subst e6
  refine ⟨a6, n6, c6, w6, hr, hR, h.sl, h.kd.past k2 (fun b e => ⟨(h.kb b e).2.1, fun e2 => (h.ob b e2.symm).2.2.2 e⟩), fun q e => ⟨(h.kb q e).1, Nat.lt_of_lt_of_le (h.kb q e).2.1 k2.size, (h.kb q e).2.2⟩, k1.more (fun b hb => by rcases hb with hb | hb <;> exact hb) (fun b hb => hb.elim), fun q e => ?_⟩
  rcases k3 with k3 | ⟨p, k3, hp⟩
  · exact h.ob q (k3.symm.trans e)
  · rw [k3] at e
    injection e with e
    subst e
    exact ⟨by omega, fun e => by have := (hvl _ e).2; omega, fun e => by have := (hok _ e).1; omega, fun e => by have := (h.kb _ e).2.1; omega⟩
/-- The last clause begins. -/
theorem KR.begin (h : KR K S W1 v0 cl ks v S' o wr) (hK : K ≤ W1.heap.size) (hn : ks.length ≤ 100000) {x : Int} (hx : -9223372036854775808 ≤ x ∧ x ≤ 9223372036854775807) :
    ∃ ka kc, o = .slice ka ks.length kc ∧ JR K S W1 v0 cl v S' o.ownBlock ka ks [x] (.slice (some ⟨wr.heap.size, 0, none⟩) 1 1) (wr.alloc (.cells #[.int .i64 x] 3)) := by
  have hA : Below wr.heap.size wr (wr.alloc (.cells #[.int .i64 x] 3)) := (Below.refl _ _).alloc (Nat.le_refl _) _
  have hW := h.rt.2.1.size
  have hvl := h.rt.1.lt
  have hok := h.rt.1.ok
  obtain ⟨ka, kc, e, hs⟩ := h.ow.slot (by omega)
  refine ⟨ka, kc, e, h.rt.after hA, h.sl, ?_, fun q e => ⟨(h.ob q e).1, Nat.lt_of_lt_of_le (h.ow.lt q e).2 hA.size, (h.ob q e).2⟩, own_new wr x hx (by omega), fun q e => ?_⟩
  · exact (hs.keep (fun b hb => by rcases hb with hb | hb; exact hb.elim; exact hb) (fun b o _ => rfl)).on hA (fun b e => (h.ow.lt b e).2)
  · injection e with e
    have e : wr.heap.size = q := e
    subst e
    exact ⟨hW, fun e => by have := (hvl _ e).2; omega, fun e => by have := (hok _ e).1; omega, fun e => by have := (h.ow.lt _ e).2; omega⟩
/-- The last clause is put behind the others. -/
theorem JR.end (h : JR K S W1 v0 cl v S' ko ka ks xs o wr) (hK : K ≤ W1.heap.size) (hn : cl.length ≤ 4000000) (hxn : xs.length ≤ 9223372036854775807) :
    ∃ oa oc, o = .slice oa xs.length oc ∧ ∃ a6 n6 c6 w6 S6, (∀ ty, (Builtin.append_ #[31, 31] ty #[v, .slice (some ⟨wr.heap.size, 0, none⟩) 1 1]).run Tryd.prog (wr.alloc (.cells #[.slice oa xs.length oc] 45)) = .ok (.slice a6 n6 c6) w6) ∧ (∀ b, S6 b → S b ∨ W1.heap.size ≤ b) ∧ CTo K S6 (cl ++ [xs]) v0 W1 (.slice a6 n6 c6) w6 := by
  have hW := h.rt.2.1.size
  obtain ⟨oa, oc, e, hs⟩ := h.ow.slot hxn
  obtain ⟨a6, n6, c6, w6, hr, k1, k2, k3⟩ := CRow.add h.rt (by omega) hn (cap := oc) rfl hs (fun b hb => by
    rcases hb with hb | hb
    · exact hb.elim
    · exact ⟨(h.ow.lt b hb).2, (h.ob b hb).2.1⟩)
  refine ⟨oa, oc, e, a6, n6, c6, w6, _, hr, fun b hb => ?_, k1⟩
  rcases hb with hb | hb | hb
  · exact h.sl b hb
  · exact hb.elim
  · exact .inr (h.ob b hb).1
end
theorem joinK_5 {v : Int} {ls : List Int} {k : Nat} (h : k < ls.length) : joinK v 1 ls (k + 1) = joinK v 1 ls k ++ [[-v, ls[k]]] := by rw [joinK_succ h, Int.one_mul]
theorem joinK_6 {v : Int} {ls : List Int} {k : Nat} (h : k < ls.length) : joinK (-v) (-1) ls (k + 1) = joinK (-v) (-1) ls k ++ [[v, -ls[k]]] := by rw [joinK_succ h, Int.neg_one_mul, Int.neg_neg]
theorem lastK_5 {v : Int} {ls : List Int} {k : Nat} (h : k < ls.length) : lastK v 1 ls (k + 1) = lastK v 1 ls k ++ [-ls[k]] := by rw [lastK_succ h, Int.neg_one_mul]
theorem lastK_6 {v : Int} {ls : List Int} {k : Nat} (h : k < ls.length) : lastK (-v) (-1) ls (k + 1) = lastK (-v) (-1) ls k ++ [ls[k]] := by rw [lastK_succ h, Int.neg_neg, Int.one_mul]
theorem joinK_len {v s : Int} {ls : List Int} {k : Nat} (h : k ≤ ls.length) : (joinK v s ls k).length = k := by unfold joinK; rw [List.length_map, List.length_take]; omega
theorem lastK_len {v s : Int} {ls : List Int} {k : Nat} (h : k ≤ ls.length) : (lastK v s ls k).length = k + 1 := by unfold lastK; rw [List.length_cons, List.length_map, List.length_take]; omega
end Go.Proofs.YtelndcmfddbgiaaDoor
