/- The document's own depth and size; the statements' own weighing. The statements' own weighing of a formula. norm.Is; the document's Is. -/
import Derived.Test.YtelndcmfddbgiaaDoorCt07
import Derived.Test.YtelndcmfddbgiaaDoorCt11
import Derived.Test.YtelndcmfddbgiaaDoorCt12
set_option linter.unusedVariables false
set_option linter.unusedSimpArgs false
namespace Go.Proofs.YtelndcmfddbgiaaDoor
open Go.RowKit

theorem top_snoc (l : List Nat) (x : Nat) : top (l ++ [x]) = max (top l) x := by
  induction l with
  | nil => show max x 0 = max 0 x; omega
  | cons a r ih =>
    have e1 : top (a :: (r ++ [x])) = max a (top (r ++ [x])) := rfl
    have e2 : top (a :: r) = max a (top r) := rfl
    rw [List.cons_append, e1, e2, ih]; omega
def topTo (n : Nat) (ks : List FT) (i : Nat) : Nat := top ((ks.take i).map (dep n))
theorem topTo_succ (n : Nat) (ks : List FT) (i : Nat) (h : i < ks.length) : topTo n ks (i + 1) = max (topTo n ks i) (dep n (ks.getD i default)) := by
  unfold topTo
  rw [List.take_succ_eq_append_getElem h, List.map_append, List.map_cons, List.map_nil, top_snoc]
  simp [List.getD_eq_getElem?_getD, h]
theorem topTo_len (n : Nat) (f : FT) : dep (n + 1) f = 1 + topTo n f.ks f.ks.length := by
  show 1 + top _ = _
  unfold topTo; rw [List.take_length]
def minI (s : Nat) (m : Int) : Int := if (s : Int) ≤ m then s else m

set_option maxRecDepth 100000 in
set_option maxHeartbeats 800000 in
theorem rdepth_any : ∀ (n : Nat) (f : FT) (cs : List Value) (m : Int) (w : World), 0 ≤ m → m ≤ 1048576 → FLies w.heap.size w n f cs →
    Calls Tryd.prog 47 #[.agg cs.toArray, .int .i64 m] w fun e w' => e = .returned (.int .i64 (cnt (dep n f) m)) ∧ Below w.heap.size w w'
  | 0, _, _, _, _, _, _, h => h.elim
  | n + 1, f, cs, m, w, h0, h1, h => by
    have IH := rdepth_any n
    obtain ⟨ta, tcap, ka, kcap, rfl, _, _, hk4, hks⟩ := h
    have HI := Lib.hid IH
    have HK := Lib.hid hks
    have HLN := Lib.hid (topTo_len n f)
    have HST := Lib.hid (topTo_succ n f.ks)
    have HB0 : Hid (Below (w.heap.size + 1) (w.alloc (.cells #[.int .i64 f.kind, .int .i64 f.c, .slice ta f.t.length tcap, .slice ka f.ks.length kcap] 27)) (w.alloc (.cells #[.int .i64 f.kind, .int .i64 f.c, .slice ta f.t.length tcap, .slice ka f.ks.length kcap] 27))) := Below.refl _ _
    have S0 : Hid ((0 : Int) = minI (topTo n f.ks 0) m) := by
      show _ = _
      unfold minI topTo
      simp [top]
      omega
    have HZ : Hid (m = 0 → cnt (dep (n + 1) f) m = 1) := fun e => by
      have := dep_zero n f
      unfold cnt
      rw [if_neg (by omega), e]; rfl
    generalize hr : cnt (dep (n + 1) f) m = r
    have HR := Lib.hid hr
    rw [hr] at HZ
    clear IH hks hr
    generalize f.kind = fk at HB0
    generalize f.c = fc at HB0
    generalize f.t.length = ft at HB0
    generalize hl : f.ks.length = len at HB0 HK hk4 HST HLN
    clear hl
    go_enter Tryd.func47, Tryd.ntmps47
    go_wp2
    go_loopw [5, 6] (fun s i wr => ∃ (k : Nat) (v : Int), k ≤ len ∧ i = .int .i64 k ∧ s = .int .i64 v ∧ 0 ≤ v ∧ v ≤ m ∧ Hid (v = minI (topTo n f.ks k) m) ∧ Below (w.heap.size + 1) (w.alloc (.cells #[.int .i64 fk, .int .i64 fc, .slice ta ft tcap, .slice ka len kcap] 27)) wr) (fun _ i _ => len - (intOf i).toNat)
    case atStart => exact ⟨0, 0, Nat.zero_le _, rfl, rfl, by omega, by omega, S0, HB0.out⟩
    case round =>
      obtain ⟨k, v, hk, rfl, rfl, hv1, hv2, hv, hbx⟩ := hrel
      have hb : Below w.heap.size w wr := ((Below.refl _ w).alloc (Nat.le_refl _) _).trans (hbx.mono (by omega))
      have bz : w.heap.size < wr.heap.size := by have := hbx.size; simp at this; omega
      have q3 : wr.cell? ⟨w.heap.size, 3, none⟩ = some (.slice ka len kcap) := by rw [hbx.cell (p := ⟨w.heap.size, 3, none⟩) (by simp)]; simp
      by_cases hm : m = 0
      · have hr : r = v + 1 := by rw [HZ.out hm]; omega
        subst hr
        clear hv HI HK HZ
        have hm2 : decide (0 < m) = false := by simp; omega
        by_cases hlt : k < len
        · go_wp2_with fail
          go_ret
          exact ⟨rfl, hb⟩
        · go_wp2_with fail
          go_ret
          exact ⟨rfl, hb⟩
      · by_cases hlt : k < len
        · obtain ⟨b, off, c0, c1, c2, c3, rfl, hblt, g0, g1, g2, g3, hf⟩ := HK.out k hlt
          rw [← hb.cell (p := ⟨b, _, none⟩) hblt] at g0 g1 g2 g3
          obtain ⟨ck, cc, cta, ctn, ctcap, cka, ckn, ckcap, rfl, rfl, rfl, rfl⟩ := hf.form
          have hih := HI.out (f.ks.getD k default) _ (m - 1) wr (by omega) (by omega) ((hf.below hb).mono hb.size)
          have hs := HST.out k hlt
          have hu : 0 ≤ cnt (dep n (f.ks.getD k default)) (m - 1) ∧ cnt (dep n (f.ks.getD k default)) (m - 1) ≤ m := by unfold cnt; split <;> omega
          have hv3 : Hid ((if v < cnt (dep n (f.ks.getD k default)) (m - 1) then cnt (dep n (f.ks.getD k default)) (m - 1) else v) = minI (topTo n f.ks (k + 1)) m) := by
            have h2 := hv.out
            show _ = _
            rw [hs]
            unfold cnt minI at *
            split at h2 <;> split <;> split <;> (try split) <;> (try split) <;> omega
          generalize cnt (dep n (f.ks.getD k default)) (m - 1) = u at hih hv3 hu
          have hm2 : 0 < m := by omega
          clear hs hf hv HZ
          go_wp2_with fail
          refine hih.mono ?_
          rintro e w1 ⟨rfl, hb1⟩
          have HB1 := Lib.hid (hbx.trans (hb1.mono (by omega)))
          clear g0 g1 g2 g3 hih hb1 hb hbx q3
          by_cases hvu : v < u
          · have hv4 : Hid (u = minI (topTo n f.ks (k + 1)) m) := hv3.out.symm.trans (by rw [if_pos hvu]) |>.symm
            clear hv3
            go_wp2_with fail
            go_roundw
            case rel => exact ⟨k + 1, u, by omega, by go_num, rfl, by omega, by omega, hv4, HB1.out⟩
            case measure => simp [intOf]; omega
          · have hv4 : Hid (v = minI (topTo n f.ks (k + 1)) m) := hv3.out.symm.trans (by rw [if_neg hvu]) |>.symm
            clear hv3
            go_wp2_with fail
            go_roundw
            case rel => exact ⟨k + 1, v, by omega, by go_num, rfl, by omega, by omega, hv4, HB1.out⟩
            case measure => simp [intOf]; omega
        · have hr : r = v + 1 := by
            have h1 := HLN.out
            have h2 := hv.out
            obtain rfl : k = len := by omega
            rw [← HR.out, h1]
            unfold cnt minI at *
            split at h2 <;> split <;> omega
          subst hr
          clear hv HI HK HZ
          go_wp2_with fail
          go_ret
          exact ⟨rfl, hb⟩

/-- The document's Size: what is left. -/
def szV (s : Nat) (m : Int) : Int := if (s : Int) ≤ m then m - s else -1
set_option maxRecDepth 100000 in
set_option maxHeartbeats 800000 in
theorem rsize_any : ∀ (n : Nat) (f : FT) (cs : List Value) (m : Int) (w : World), 0 ≤ m → m ≤ 1048576 → FLies w.heap.size w n f cs →
    Calls Tryd.prog 48 #[.agg cs.toArray, .int .i64 m] w fun e w' => e = .returned (.int .i64 (szV (siz n f) m)) ∧ Below w.heap.size w w'
  | 0, _, _, _, _, _, _, h => h.elim
  | n + 1, f, cs, m, w, h0, h1, h => by
    have IH := rsize_any n
    obtain ⟨ta, tcap, ka, kcap, rfl, _, _, hk4, hks⟩ := h
    have HI := Lib.hid IH
    have HK := Lib.hid hks
    have HLE := Lib.hid (sizTo_le n f)
    have HLN := Lib.hid (sizTo_len n f)
    have HST := Lib.hid (sizTo_succ n f.ks)
    have HB0 : Hid (Below (w.heap.size + 1) (w.alloc (.cells #[.int .i64 f.kind, .int .i64 f.c, .slice ta f.t.length tcap, .slice ka f.ks.length kcap] 27)) (w.alloc (.cells #[.int .i64 f.kind, .int .i64 f.c, .slice ta f.t.length tcap, .slice ka f.ks.length kcap] 27))) := Below.refl _ _
    have S0 : Hid (m - 1 = szV (1 + sizTo n f.ks 0) m) := by
      show _ = _
      unfold szV
      rw [sizTo_zero]
      split <;> omega
    generalize hr : szV (siz (n + 1) f) m = r
    have HR := Lib.hid hr
    clear IH hks hr
    generalize f.kind = fk at HB0
    generalize f.c = fc at HB0
    generalize f.t.length = ft at HB0
    generalize hl : f.ks.length = len at HB0 HK hk4 HST HLN
    clear hl
    go_enter Tryd.func48, Tryd.ntmps48
    go_wp2
    go_loopw [1, 5] (fun s i wr => ∃ (k : Nat) (v : Int), k ≤ len ∧ i = .int .i64 k ∧ s = .int .i64 v ∧ -1 ≤ v ∧ v ≤ m ∧ Hid (v = szV (1 + sizTo n f.ks k) m) ∧ Below (w.heap.size + 1) (w.alloc (.cells #[.int .i64 fk, .int .i64 fc, .slice ta ft tcap, .slice ka len kcap] 27)) wr) (fun _ i _ => len - (intOf i).toNat)
    case atStart => exact ⟨0, m - 1, Nat.zero_le _, rfl, rfl, by omega, by omega, S0, HB0.out⟩
    case round =>
      obtain ⟨k, v, hk, rfl, rfl, hv1, hv2, hv, hbx⟩ := hrel
      have hb : Below w.heap.size w wr := ((Below.refl _ w).alloc (Nat.le_refl _) _).trans (hbx.mono (by omega))
      have bz : w.heap.size < wr.heap.size := by have := hbx.size; simp at this; omega
      have q3 : wr.cell? ⟨w.heap.size, 3, none⟩ = some (.slice ka len kcap) := by rw [hbx.cell (p := ⟨w.heap.size, 3, none⟩) (by simp)]; simp
      by_cases hlt : k < len
      · by_cases hvn : v < 0
        · have hr : r = v := by
            have h1 := HLE.out k
            have h2 := hv.out
            rw [← HR.out]
            unfold szV at h2 ⊢
            split at h2 <;> split <;> omega
          subst hr
          clear hv HI HK
          go_wp2_with fail
          go_ret
          exact ⟨rfl, hb⟩
        · obtain ⟨b, off, c0, c1, c2, c3, rfl, hblt, g0, g1, g2, g3, hf⟩ := HK.out k hlt
          rw [← hb.cell (p := ⟨b, _, none⟩) hblt] at g0 g1 g2 g3
          obtain ⟨ck, cc, cta, ctn, ctcap, cka, ckn, ckcap, rfl, rfl, rfl, rfl⟩ := hf.form
          have hih := HI.out (f.ks.getD k default) _ v wr (by omega) (by omega) ((hf.below hb).mono hb.size)
          have hs := HST.out k hlt
          have hu : -1 ≤ szV (siz n (f.ks.getD k default)) v ∧ szV (siz n (f.ks.getD k default)) v ≤ m := by unfold szV; split <;> omega
          have hv3 : Hid (szV (siz n (f.ks.getD k default)) v = szV (1 + sizTo n f.ks (k + 1)) m) := by
            have h2 := hv.out
            show _ = _
            unfold szV at h2 ⊢
            rw [hs]
            split at h2 <;> split <;> split <;> omega
          generalize szV (siz n (f.ks.getD k default)) v = u at hih hv3 hu
          clear hs hf hv
          go_wp2_with fail
          refine hih.mono ?_
          rintro e w1 ⟨rfl, hb1⟩
          have HB1 := Lib.hid (hbx.trans (hb1.mono (by omega)))
          clear g0 g1 g2 g3 hih hb1 hb hbx q3
          go_wp2
          go_roundw
          case rel => exact ⟨k + 1, u, by omega, by go_num, rfl, by omega, by omega, hv3, HB1.out⟩
          case measure => simp [intOf]; omega
      · have hr : r = v := by
          have h1 := HLN.out
          have h2 := hv.out
          obtain rfl : k = len := by omega
          rw [← HR.out, h2, h1]
        subst hr
        clear hv HI HK
        go_wp2_with fail
        go_ret
        exact ⟨rfl, hb⟩
end Go.Proofs.YtelndcmfddbgiaaDoor

namespace Go.Proofs.YtelndcmfddbgiaaDoor
open Go.RowKit

/-- An answer that is some number from -1 up to a bound. -/
def Some (B : Nat) (m : Int) (w : World) (e : Ending) (w' : World) : Prop := ∃ v : Int, e = .returned (.int .i64 v) ∧ -1 ≤ v ∧ v ≤ m ∧ Below B w w'

set_option maxRecDepth 100000 in
set_option maxHeartbeats 1600000 in
theorem light_any : ∀ (n : Nat) (f : FT) (cs : List Value) (m d : Int) (w : World), 0 ≤ m → m ≤ 1048576 → 0 ≤ d → d ≤ 1048576 → FLies w.heap.size w n f cs →
    Calls Tryd.prog 20 #[.agg cs.toArray, .int .i64 m, .int .i64 d] w (Some w.heap.size m w)
  | 0, _, _, _, _, _, _, _, _, _, h => h.elim
  | n + 1, f, cs, m, d, w, h0, h1, d0, d1, h => by
    have IH := light_any n
    obtain ⟨ta, tcap, ka, kcap, rfl, _, ht4, hk4, hks⟩ := h
    have HI := Lib.hid IH
    have HK := Lib.hid hks
    have B0 := Lib.hid (box_start w f.kind f.c ta ka f.t.length tcap f.ks.length kcap)
    clear IH hks
    generalize f.kind = fk at B0
    generalize f.c = fc at B0
    generalize f.t.length = ft at B0 ht4
    generalize hl : f.ks.length = len at B0 HK hk4
    clear hl
    have hno : ∀ r : Int, r = -1 → Hid (Some w.heap.size m w (.returned (.int .i64 r)) (w.alloc (.cells #[.int .i64 fk, .int .i64 fc, .slice ta ft tcap, .slice ka len kcap] 27))) := fun r hr => ⟨r, rfl, by omega, by omega, B0.out.bel⟩
    by_cases hd : d = 0
    · have e1 : (d == 0) = true := by simpa using hd
      have hn := hno _ rfl
      clear hno HI HK hd
      go_enter Tryd.func20, Tryd.ntmps20
      go_wp2_with fail
      go_ret
      exact hn.out
    · have e1 : (d == 0) = false := by simpa using hd
      by_cases hm : m = 0
      · have e2 : decide (m - 1 < 0) = true := by simp; omega
        have hn := hno _ rfl
        clear hno HI HK hd
        go_enter Tryd.func20, Tryd.ntmps20
        go_wp2_with fail
        go_ret
        exact hn.out
      · have e2 : ¬ m - 1 < 0 := by omega
        by_cases ht : m - 1 < (ft : Int)
        · have hn := hno _ rfl
          clear hno HI HK hd
          go_enter Tryd.func20, Tryd.ntmps20
          go_wp2_with fail
          go_ret
          exact hn.out
        · by_cases hk : m - 1 < (len : Int)
          · have hn := hno _ rfl
            clear hno HI HK hd
            go_enter Tryd.func20, Tryd.ntmps20
            go_wp2_with fail
            go_ret
            exact hn.out
          · clear hno
            go_enter Tryd.func20, Tryd.ntmps20
            go_wp2_with fail
            go_loopw [1, 7] (fun s i wr => ∃ (k : Nat) (v : Int), k ≤ len ∧ i = .int .i64 k ∧ s = .int .i64 v ∧ 0 ≤ v ∧ v ≤ m - 1 ∧ Hid (Box w wr w.heap.size fk fc ta ft tcap ka len kcap)) (fun _ i _ => len - (intOf i).toNat)
            case atStart => exact ⟨0, m - 1 - ft, Nat.zero_le _, rfl, rfl, by omega, by omega, B0⟩
            case round =>
              obtain ⟨k, v, hkk, rfl, rfl, hv1, hv2, hbx⟩ := hrel
              obtain ⟨bz, _, _, _, q3, hb⟩ := hbx.out
              by_cases hlt : k < len
              · obtain ⟨b, off, c0, c1, c2, c3, rfl, hblt, g0, g1, g2, g3, hf⟩ := HK.out k hlt
                rw [← hb.cell (p := ⟨b, _, none⟩) hblt] at g0 g1 g2 g3
                obtain ⟨ck, cc, cta, ctn, ctcap, cka, ckn, ckcap, rfl, rfl, rfl, rfl⟩ := hf.form
                have hih := HI.out (f.ks.getD k default) _ v (d - 1) wr (by omega) (by omega) (by omega) (by omega) ((hf.below hb).mono hb.size)
                clear hf
                go_wp2_with fail
                refine hih.mono ?_
                rintro e w1 ⟨u, rfl, hu1, hu2, hb1⟩
                have HB1 := Lib.hid (hbx.out.below hb1 bz)
                clear g0 g1 g2 g3 hih hb1 hb hbx q3
                by_cases hun : u < 0
                · go_wp2_with fail
                  go_ret
                  exact ⟨-1, rfl, by omega, by omega, HB1.out.bel⟩
                · go_wp2_with fail
                  go_roundw
                  case rel => exact ⟨k + 1, u, by omega, by go_num, rfl, by omega, by omega, HB1⟩
                  case measure => simp [intOf]; omega
              · clear HI HK
                go_wp2_with fail
                go_ret
                exact ⟨v, rfl, by omega, by omega, hb⟩

end Go.Proofs.YtelndcmfddbgiaaDoor

namespace Go.Proofs.YtelndcmfddbgiaaDoor
open Go.RowKit

/-- Is a formula normalized? -/
def isF (n : Nat) (f : FT) : Bool := decide (dep n f ≤ 128) && (decide (siz n f ≤ 20480) && madeF n f)

set_option maxHeartbeats 1000000 in
theorem nis_any (n : Nat) (f : FT) (cs : List Value) (w : World) (h : FLies w.heap.size w n f cs) :
    Calls Tryd.prog 21 #[.agg cs.toArray] w fun e w' => e = .returned (.bool (isF n f)) ∧ Below w.heap.size w w' := by
  have FL := fun W (hb : Below w.heap.size w W) => (h.below hb).mono hb.size
  cases n with
  | zero => exact h.elim
  | succ n =>
    obtain ⟨ta, tcap, ka, kcap, rfl, _⟩ := h
    have hd := Lib.hid (fun W hb => ndeeper_any (n + 1) f _ 128 W (by omega) (by omega) (FL W hb))
    have hc := Lib.hid (fun W hb => ncount_any (n + 1) f _ 20480 W (by omega) (by omega) (FL W hb))
    have hm := Lib.hid (fun W hb => made_any (n + 1) f _ W (FL W hb))
    have T0 := Lib.hid (box_start w f.kind f.c ta ka f.t.length tcap f.ks.length kcap)
    unfold isF
    clear FL
    generalize dep (n + 1) f = d at hd
    generalize siz (n + 1) f = s at hc
    generalize madeF (n + 1) f = b at hm
    generalize f.kind = fk at T0 hd hc hm
    generalize f.c = fc at T0 hd hc hm
    generalize f.t.length = ft at T0 hd hc hm
    generalize f.ks.length = fl at T0 hd hc hm
    by_cases h1 : d ≤ 128
    · have e1 : decide ((128 : Int) < (d : Int)) = false := by simp; omega
      rw [e1] at hd
      rw [decide_eq_true h1, Bool.true_and]
      by_cases h2 : s ≤ 20480
      · have e2 : cnt s 20480 = s := by unfold cnt; rw [if_pos (by omega)]
        rw [e2] at hc
        rw [decide_eq_true h2, Bool.true_and]
        have h2' : (s : Int) ≤ 20480 := by omega
        go_enter Tryd.func21, Tryd.ntmps21
        go_wp2_with fail
        refine (hd.out _ T0.out.bel).mono ?_
        rintro e w1 ⟨rfl, hb1⟩
        have T1 := Lib.hid (T0.out.below hb1 T0.out.lt)
        clear hb1
        obtain ⟨l1, p0, p1, p2, p3, _⟩ := T1.out
        go_wp2_with fail
        refine (hc.out _ T1.out.bel).mono ?_
        rintro e w2 ⟨rfl, hb2⟩
        have T2 := Lib.hid (T1.out.below hb2 T1.out.lt)
        clear hb2 l1 p0 p1 p2 p3
        obtain ⟨l2, p0, p1, p2, p3, _⟩ := T2.out
        go_wp2_with fail
        refine (hm.out _ T2.out.bel).mono ?_
        rintro e w3 ⟨rfl, hb3⟩
        have T3 := Lib.hid (T2.out.below hb3 T2.out.lt)
        clear hb3 l2 p0 p1 p2 p3
        cases b
        all_goals
          go_wp2_with fail
          go_ret
          exact ⟨rfl, T3.out.bel⟩
      · have e2 : cnt s 20480 = 20481 := by unfold cnt; rw [if_neg (by omega)]; rfl
        rw [e2] at hc
        rw [decide_eq_false h2, Bool.false_and]
        clear hm
        go_enter Tryd.func21, Tryd.ntmps21
        go_wp2_with fail
        refine (hd.out _ T0.out.bel).mono ?_
        rintro e w1 ⟨rfl, hb1⟩
        have T1 := Lib.hid (T0.out.below hb1 T0.out.lt)
        clear hb1
        obtain ⟨l1, p0, p1, p2, p3, _⟩ := T1.out
        go_wp2_with fail
        refine (hc.out _ T1.out.bel).mono ?_
        rintro e w2 ⟨rfl, hb2⟩
        have T2 := Lib.hid (T1.out.below hb2 T1.out.lt)
        clear hb2 l1 p0 p1 p2 p3
        go_wp2_with fail
        go_ret
        exact ⟨rfl, T2.out.bel⟩
    · have e1 : decide ((128 : Int) < (d : Int)) = true := by simp; omega
      rw [e1] at hd
      rw [decide_eq_false h1, Bool.false_and]
      clear hm hc
      go_enter Tryd.func21, Tryd.ntmps21
      go_wp2_with fail
      refine (hd.out _ T0.out.bel).mono ?_
      rintro e w1 ⟨rfl, hb1⟩
      have T1 := Lib.hid (T0.out.below hb1 T0.out.lt)
      clear hb1
      go_wp2_with fail
      go_ret
      exact ⟨rfl, T1.out.bel⟩

set_option maxHeartbeats 1000000 in
theorem rnis_any (n : Nat) (f : FT) (cs : List Value) (w : World) (h : FLies w.heap.size w n f cs) :
    Calls Tryd.prog 26 #[.agg cs.toArray] w fun e w' => e = .returned (.bool (isF n f)) ∧ Below w.heap.size w w' := by
  have FL := fun W (hb : Below w.heap.size w W) => (h.below hb).mono hb.size
  cases n with
  | zero => exact h.elim
  | succ n =>
    obtain ⟨ta, tcap, ka, kcap, rfl, _⟩ := h
    have hd := Lib.hid (fun W hb => rdepth_any (n + 1) f _ 128 W (by omega) (by omega) (FL W hb))
    have hc := Lib.hid (fun W hb => rsize_any (n + 1) f _ 20480 W (by omega) (by omega) (FL W hb))
    have hm := Lib.hid (fun W hb => only_any (n + 1) f _ W (FL W hb))
    have T0 := Lib.hid (box_start w f.kind f.c ta ka f.t.length tcap f.ks.length kcap)
    unfold isF
    clear FL
    generalize dep (n + 1) f = d at hd
    generalize siz (n + 1) f = s at hc
    generalize madeF (n + 1) f = b at hm
    generalize f.kind = fk at T0 hd hc hm
    generalize f.c = fc at T0 hd hc hm
    generalize f.t.length = ft at T0 hd hc hm
    generalize f.ks.length = fl at T0 hd hc hm
    by_cases h1 : d ≤ 128
    · have e1 : cnt d 128 = d := by unfold cnt; rw [if_pos (by omega)]
      rw [e1] at hd
      rw [decide_eq_true h1, Bool.true_and]
      have h1' : (d : Int) ≤ 128 := by omega
      by_cases h2 : s ≤ 20480
      · have e2 : szV s 20480 = 20480 - s := by unfold szV; rw [if_pos (by omega)]
        rw [e2] at hc
        rw [decide_eq_true h2, Bool.true_and]
        have h2' : (0 : Int) ≤ 20480 - s := by omega
        generalize (20480 : Int) - s = z at hc h2'
        go_enter Tryd.func26, Tryd.ntmps26
        go_wp2_with fail
        refine (hd.out _ T0.out.bel).mono ?_
        rintro e w1 ⟨rfl, hb1⟩
        have T1 := Lib.hid (T0.out.below hb1 T0.out.lt)
        clear hb1
        obtain ⟨l1, p0, p1, p2, p3, _⟩ := T1.out
        go_wp2_with fail
        refine (hc.out _ T1.out.bel).mono ?_
        rintro e w2 ⟨rfl, hb2⟩
        have T2 := Lib.hid (T1.out.below hb2 T1.out.lt)
        clear hb2 l1 p0 p1 p2 p3
        obtain ⟨l2, p0, p1, p2, p3, _⟩ := T2.out
        go_wp2_with fail
        refine (hm.out _ T2.out.bel).mono ?_
        rintro e w3 ⟨rfl, hb3⟩
        have T3 := Lib.hid (T2.out.below hb3 T2.out.lt)
        clear hb3 l2 p0 p1 p2 p3
        cases b
        all_goals
          go_wp2_with fail
          go_ret
          exact ⟨rfl, T3.out.bel⟩
      · have e2 : szV s 20480 = -1 := by unfold szV; rw [if_neg (by omega)]
        rw [e2] at hc
        rw [decide_eq_false h2, Bool.false_and]
        clear hm
        go_enter Tryd.func26, Tryd.ntmps26
        go_wp2_with fail
        refine (hd.out _ T0.out.bel).mono ?_
        rintro e w1 ⟨rfl, hb1⟩
        have T1 := Lib.hid (T0.out.below hb1 T0.out.lt)
        clear hb1
        obtain ⟨l1, p0, p1, p2, p3, _⟩ := T1.out
        go_wp2_with fail
        refine (hc.out _ T1.out.bel).mono ?_
        rintro e w2 ⟨rfl, hb2⟩
        have T2 := Lib.hid (T1.out.below hb2 T1.out.lt)
        clear hb2 l1 p0 p1 p2 p3
        go_wp2_with fail
        go_ret
        exact ⟨rfl, T2.out.bel⟩
    · have e1 : cnt d 128 = 129 := by unfold cnt; rw [if_neg (by omega)]; rfl
      rw [e1] at hd
      rw [decide_eq_false h1, Bool.false_and]
      clear hm hc
      go_enter Tryd.func26, Tryd.ntmps26
      go_wp2_with fail
      refine (hd.out _ T0.out.bel).mono ?_
      rintro e w1 ⟨rfl, hb1⟩
      have T1 := Lib.hid (T0.out.below hb1 T0.out.lt)
      clear hb1
      go_wp2_with fail
      go_ret
      exact ⟨rfl, T1.out.bel⟩

end Go.Proofs.YtelndcmfddbgiaaDoor
