/- formula.vars: the variables of a formula behind a list. -/
import Derived.Test.YtinineipfleoiaaFrmV1
namespace Go.Proofs.Ytinineipfleoiaa
open Go.RowKit

def VEnd (B : Nat) (w : World) (v : Value) (l : List Int) (e : Ending) (w' : World) : Prop := ∃ v', e = .returned v' ∧ VSt B w v.ownBlock l v' w'

set_option maxRecDepth 100000 in
set_option maxHeartbeats 1600000 in
theorem vars_any : ∀ (n : Nat) (f : FT) (cs : List Value) (v : Value) (l : List Int) (B : Nat) (w : World), FLies B w n f cs → B ≤ w.heap.size → IRow B l v w → l.length + (vsF n f).length ≤ 1048576 →
    Calls Try.prog 32 #[.agg cs.toArray, v] w (VEnd B w v (l ++ vsF n f))
  | 0, _, _, _, _, _, _, h, _, _, _ => h.elim
  | n + 1, f, cs, v, l, B, w, h, hB, hrow, hlen => by
    have IH := vars_any n
    obtain ⟨i0, hi, hz0, hz1, hz2⟩ := parts_of Try.infoInt
    obtain ⟨ta, tcap, ka, kcap, rfl, hlt, ht4, hk4, hks⟩ := h
    have HL := Lib.hid hlt
    have HI := Lib.hid IH
    have HK := Lib.hid hks
    have HTS := Lib.hid (tsTo_succ f.t)
    have HVS := Lib.hid (vsTo_succ n f.ks)
    have HVL := Lib.hid (vsTo_le n f.ks)
    have HTL := Lib.hid (tsTo_len f.t)
    have HEQ := Lib.hid (vsF_eq n f)
    have hlen2 : l.length + f.t.length + (vsTo n f.ks f.ks.length).length ≤ 1048576 := by
      rw [vsF_eq, List.length_append, tsTo, List.length_map, List.length_take] at hlen; omega
    have N0 := Lib.hid (hrow.ne w.heap.size (Nat.le_refl _))
    have NB := Lib.hid hrow.base
    have S0 := Lib.hid ((VSt.start hrow).alloc (.cells #[.int .i64 f.kind, .int .i64 f.c, .slice ta f.t.length tcap, .slice ka f.ks.length kcap] 27))
    have S1 : Hid (VSt B (w.alloc (.cells #[.int .i64 f.kind, .int .i64 f.c, .slice ta f.t.length tcap, .slice ka f.ks.length kcap] 27)) v.ownBlock (l ++ tsTo f.t 0) v (w.alloc (.cells #[.int .i64 f.kind, .int .i64 f.c, .slice ta f.t.length tcap, .slice ka f.ks.length kcap] 27))) := by
      have e : l ++ tsTo f.t 0 = l := by simp [tsTo]
      show VSt _ _ _ _ _ _
      rw [e]; exact VSt.start S0.out.row
    have c2 : (w.alloc (.cells #[.int .i64 f.kind, .int .i64 f.c, .slice ta f.t.length tcap, .slice ka f.ks.length kcap] 27)).cell? ⟨w.heap.size, 2, none⟩ = some (.slice ta f.t.length tcap) := by simp
    have C3 : Hid ((w.alloc (.cells #[.int .i64 f.kind, .int .i64 f.c, .slice ta f.t.length tcap, .slice ka f.ks.length kcap] 27)).cell? ⟨w.heap.size, 3, none⟩ = some (.slice ka f.ks.length kcap)) := by show _ = _; simp
    have BW : Hid (∀ W l' v', VSt B (w.alloc (.cells #[.int .i64 f.kind, .int .i64 f.c, .slice ta f.t.length tcap, .slice ka f.ks.length kcap] 27)) v.ownBlock l' v' W → Below B w W) := fun W l' v' hs => ((Below.refl B w).alloc hB _).trans (hs.below (by simp; omega) NB.out)
    have END : Hid (∀ W l' v', VSt B (w.alloc (.cells #[.int .i64 f.kind, .int .i64 f.c, .slice ta f.t.length tcap, .slice ka f.ks.length kcap] 27)) v.ownBlock l' v' W → VSt B w v.ownBlock l' v' W) := fun W l' v' hs => S0.out.trans hs
    clear IH hks hlt hrow hlen S0
    generalize f.kind = fk at S1 c2 C3 BW END
    generalize f.c = fc at S1 c2 C3 BW END
    generalize hft : f.t.length = ft at S1 c2 C3 BW END ht4 HTS HTL hlen2 HEQ
    generalize hfl : f.ks.length = len at S1 c2 C3 BW END HK hk4 HVS HVL hlen2 HEQ
    have HFT := Lib.hid hft
    generalize hw0 : w.alloc (.cells #[.int .i64 fk, .int .i64 fc, .slice ta ft tcap, .slice ka len kcap] 27) = w0 at S1 c2 C3 BW END
    have hz : w.heap.size < w0.heap.size := by rw [← hw0]; simp
    clear hft hfl
    go_enter Try.func32, Try.ntmps32
    go_wp2_with fail
    clear hw0 c2
    go_loopw [1, 13] (fun s i wr => ∃ (k : Nat), k ≤ ft ∧ i = .int .i64 k ∧ Hid (VSt B w0 v.ownBlock (l ++ tsTo f.t k) s wr)) (fun _ i _ => ft - (intOf i).toNat)
    case atStart => exact ⟨0, Nat.zero_le _, rfl, S1⟩
    case round =>
      obtain ⟨k, hk, rfl, hs⟩ := hrel
      by_cases hlt : k < ft
      · obtain ⟨b, off, rfl, hblt, c1, c2⟩ := (HL.out.below (BW.out _ _ _ hs.out)) k (by rw [HFT.out]; exact hlt)
        have hts := HTS.out k hlt
        have hL : (l ++ tsTo f.t k).length ≤ 1048575 := by
          have := HTL.out (k + 1)
          rw [hts, List.length_append] at this
          simp at this
          rw [List.length_append]
          omega
        have hBz : B ≤ wr.heap.size := by have := hs.out.size; omega
        generalize (f.t.getD k (0, 0)).1 = x at c1 hts
        generalize (f.t.getD k (0, 0)).2 = u at c2
        have HTT := Lib.hid hts
        generalize hLL : l ++ tsTo f.t k = L at hs hL
        have HLL := Lib.hid hLL
        have HRW := Lib.hid ((hs.out.row.alloc (.cells #[.int .i64 x, .int .i64 u] 51)).alloc (.cells #[.int .i64 x] 3))
        clear hts hLL
        go_wp2_with (at_builtin; refine wpList_append_own_at _ rfl _ _ 38 rfl B 3 i0 _ 1 8 Try.underlying38 hi hz0 hz1 hz2 rfl (by decide) u1 L.length (ints L) rfl HRW.out ⟨wr.heap.size + 1, 0, none⟩ 1 1 [.int .i64 x] rfl rfl ?c2 ?c3 ?c4 ?c5 ?c6 ?_)
        case c2 => exact one_at _ _ _ _ (by simp)
        case c3 => exact one_int x
        case c4 => unfold maxLen; omega
        case c5 => omega
        case c6 => simp; omega
        intro v' w1 hown' hgrow _ hat
        have S2 : Hid (VSt B w0 v.ownBlock (l ++ tsTo f.t (k + 1)) v' w1) := by
          have := ((hs.out.alloc _).alloc _).append hown' hgrow (by simpa using hat)
          rw [← HLL.out, List.append_assoc, ← HTT.out] at this
          exact this
        clear hown' hgrow hat HRW hs
        go_wp2_with fail
        go_roundw
        case rel => exact ⟨k + 1, by omega, by go_num, S2⟩
        case measure => simp [intOf]; omega
      · have hk2 : k = ft := by omega
        subst hk2
        have c3 : wr.cell? ⟨w.heap.size, 3, none⟩ = some (.slice ka len kcap) := hs.out.cell C3.out N0.out
        have S3 : Hid (VSt B w0 v.ownBlock ((l ++ tsTo f.t k) ++ vsTo n f.ks 0) u1 wr) := by
          have e : (l ++ tsTo f.t k) ++ vsTo n f.ks 0 = l ++ tsTo f.t k := by simp [vsTo]
          show VSt _ _ _ _ _ _
          rw [e]; exact hs.out
        have hL : (l ++ tsTo f.t k).length + (vsTo n f.ks len).length ≤ 1048576 := by
          have := HTL.out k
          rw [List.length_append]
          omega
        have HE : Hid (l ++ vsF (n + 1) f = (l ++ tsTo f.t k) ++ vsTo n f.ks len) := by
          show _ = _
          rw [HEQ.out, List.append_assoc]
        generalize l ++ tsTo f.t k = L at S3 hL HE
        clear hs HEQ
        go_wp2_with fail
        clear c3
        go_loopw [1, 26] (fun s i wr => ∃ (k : Nat), k ≤ len ∧ i = .int .i64 k ∧ Hid (VSt B w0 v.ownBlock (L ++ vsTo n f.ks k) s wr)) (fun _ i _ => len - (intOf i).toNat)
        case atStart => exact ⟨0, Nat.zero_le _, rfl, S3⟩
        case round =>
          obtain ⟨k, hk, rfl, hs⟩ := hrel
          by_cases hlt : k < len
          · obtain ⟨b, off, c0, c1, c2, c3, rfl, hblt, g0, g1, g2, g3, hf⟩ := HK.out k hlt
            have hb := BW.out _ _ _ hs.out
            rw [← hb.cell (p := ⟨b, _, none⟩) hblt] at g0 g1 g2 g3
            obtain ⟨ck, cc, cta, ctn, ctcap, cka, ckn, ckcap, rfl, rfl, rfl, rfl⟩ := hf.form
            have hvs := HVS.out k hlt
            have hvl := HVL.out (k + 1)
            rw [hvs, List.length_append] at hvl
            have hBz : B ≤ wr.heap.size := by have := hs.out.size; omega
            have hih := HI.out (f.ks.getD k default) _ u1 (L ++ vsTo n f.ks k) B (wr.alloc (.cells #[.int .i64 ck, .int .i64 cc, .slice cta ctn ctcap, .slice cka ckn ckcap] 27)) (hf.below (hb.alloc hBz _)) (by simp; omega) (hs.out.alloc _).row (by rw [List.length_append]; omega)
            rw [List.append_assoc, ← hvs] at hih
            clear hf hvs hvl hb
            go_wp2_with fail
            refine hih.mono ?_
            rintro e w1 ⟨v', rfl, hst⟩
            have S2 := Lib.hid ((hs.out.alloc _).trans hst)
            clear g0 g1 g2 g3 hih hst hs
            go_wp2_with fail
            go_roundw
            case rel => exact ⟨k + 1, by omega, by go_num, S2⟩
            case measure => simp [intOf]; omega
          · have hk2 : k = len := by omega
            subst hk2
            go_wp2_with fail
            go_ret
            exact ⟨_, rfl, by rw [HE.out]; exact END.out _ _ _ hs.out⟩
end Go.Proofs.Ytinineipfleoiaa
