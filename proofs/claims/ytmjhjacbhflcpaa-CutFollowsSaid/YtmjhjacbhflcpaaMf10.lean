/- What follows from lines. CutFollows: the walk. How the arguments of layer 1 read: a list of terms, a form. -/
import Derived.Test.YtmjhjacbhflcpaaMf01
import Derived.Test.YtmjhjacbhflcpaaMf09
import Derived.Test.YtmjhjacbhflcpaaRows
import Derived.ProofKit
import Derived.OpenShut
import Derived.ChangeOld
import Derived.Deep.Slices
import Derived.Deep.Fields
import Derived.Lib.SmallJoins
set_option linter.unusedVariables false
set_option linter.unusedSimpArgs false
namespace Go.Proofs.Ytmjhjacbhflcpaa
open Go.RowKit Go.Maps

/-- Terms' value. -/
def evl (zs : List Int) (l : List (Int × Int)) : Int := (l.map fun m => m.2 * valOf zs m.1).sum
theorem evl_nil (zs : List Int) : evl zs [] = 0 := rfl
theorem evl_cons (zs : List Int) (m : Int × Int) (l : List (Int × Int)) : evl zs (m :: l) = m.2 * valOf zs m.1 + evl zs l := by simp [evl]
theorem evl_append (zs : List Int) (l r : List (Int × Int)) : evl zs (l ++ r) = evl zs l + evl zs r := by simp [evl, List.sum_append]
theorem evl_perm (zs : List Int) {l r : List (Int × Int)} (h : l.Perm r) : evl zs l = evl zs r := by
  induction h with
  | nil => rfl
  | cons x _ ih => rw [evl_cons, evl_cons, ih]
  | swap x y l => simp only [evl_cons]; omega
  | trans _ _ h1 h2 => exact h1.trans h2
theorem sAt_evl (c : Int) (l : List (Int × Int)) (zs : List Int) : ∀ k, k ≤ l.length → sAt c l zs k = c + evl zs (l.take k)
  | 0, _ => by simp [sAt, evl]
  | k + 1, hk => by
    rw [take_snoc l k (by omega), evl_append, evl_cons, evl_nil]
    unfold sAt
    rw [sAt_evl c l zs k (by omega)]
    omega
theorem evl_togStep (zs : List Int) (r : List (Int × Int)) (m : Int × Int) : evl zs (togStep r m) = evl zs r + m.2 * valOf zs m.1 := by
  obtain ⟨v, u⟩ := m
  rcases snoc_cases r with rfl | ⟨r', ⟨pv, pk⟩, rfl⟩
  · rw [togStep_nil, evl_cons, evl_nil]; omega
  · by_cases e : pv = v
    · subst e
      rw [togStep_eq, evl_append, evl_append, evl_cons, evl_cons, evl_nil, Int.add_mul]
      simp only
      omega
    · rw [togStep_ne _ _ _ e, evl_append, evl_cons, evl_nil]; omega
theorem evl_tog (zs : List Int) (l : List (Int × Int)) : ∀ k, k ≤ l.length → evl zs (tog (l.take k)) = evl zs (l.take k)
  | 0, _ => by simp [tog]
  | k + 1, hk => by
    rw [take_snoc l k (by omega), tog_snoc, evl_togStep, evl_tog zs l k (by omega), evl_append, evl_cons, evl_nil]
    omega
theorem evl_filter (zs : List Int) (l : List (Int × Int)) : evl zs (l.filter fun m => m.2 != 0) = evl zs l := by
  induction l with
  | nil => rfl
  | cons m r ih =>
    by_cases h : m.2 = 0
    · rw [List.filter_cons_of_neg (by simp [h]), ih, evl_cons, h]; omega
    · rw [List.filter_cons_of_pos (by simp [h]), evl_cons, evl_cons, ih]
theorem evl_sumOf (zs : List Int) (l : List (Int × Int)) : evl zs (sumOf l) = evl zs l := by
  unfold sumOf
  rw [evl_filter]
  have := evl_tog zs (l.mergeSort fun a b => decide (a.1 ≤ b.1)) _ (Nat.le_refl _)
  rw [List.take_length] at this
  rw [this, evl_perm zs (List.mergeSort_perm _ _)]
theorem evl_times (zs : List Int) (x : Int) (l : List (Int × Int)) : evl zs (timesL x l) = x * evl zs l := by
  induction l with
  | nil => simp [timesL, evl]
  | cons m r ih =>
    have e : timesL x (m :: r) = (m.1, m.2 * x) :: timesL x r := rfl
    rw [e, evl_cons, evl_cons, ih, Int.mul_add]
    simp only
    rw [← Int.mul_assoc, Int.mul_comm x m.2]
/-- A form's value. -/
def fval (zs : List Int) (l : Int × List (Int × Int)) : Int := l.1 + evl zs l.2
theorem fval_sAt (zs : List Int) (c : Int) (l : List (Int × Int)) : sAt c l zs l.length = fval zs (c, l) := by
  rw [sAt_evl c l zs _ (Nat.le_refl _), List.take_length]; rfl
def allLe (zs : List Int) (ls : List (Int × List (Int × Int))) : Prop := ∀ i, i < ls.length → fval zs (ls.getD i (0, [])) ≤ 0
theorem parts_le {zs : List Int} {ls : List (Int × List (Int × Int))} {ps : List (Int × Int)} (hok : partsOk ls ps) (h : allLe zs ls) : ∀ k, k ≤ ps.length → cTo ls ps k + evl zs (tTo ls ps k) ≤ 0
  | 0, _ => by show (0 : Int) + evl zs [] ≤ 0; rw [evl_nil]; decide
  | k + 1, hk => by
    have h1 := parts_le hok h k (by omega)
    obtain ⟨⟨_, hi⟩, ⟨hx, _⟩, _⟩ := hok.2 k (by omega)
    have h2 : (lineAt ls ps k).1 + evl zs (lineAt ls ps k).2 ≤ 0 := h _ hi
    show cTo ls ps k + _ + evl zs (tTo ls ps k ++ _) ≤ 0
    rw [evl_append, evl_times]
    generalize (ps.getD k (0, 0)).2 = x at hx
    generalize (lineAt ls ps k).1 = c at h2
    generalize evl zs (lineAt ls ps k).2 = e at h2
    have h3 : x * (c + e) ≤ x * 0 := Int.mul_le_mul_of_nonneg_left h2 (by omega)
    rw [Int.mul_add, Int.mul_zero] at h3
    rw [Int.mul_comm c x]
    omega
theorem evl_div {zs : List Int} {g : Int} {R : List (Int × Int)} (h : allDiv g R = true) : g * evl zs (divT g R) = evl zs R := by
  induction R with
  | nil => simp [divT, evl]
  | cons m r ih =>
    have h1 : m.2.tmod g = 0 ∧ allDiv g r = true := by simpa [allDiv] using h
    have e : divT g (m :: r) = (m.1, m.2.tdiv g) :: divT g r := rfl
    rw [e, evl_cons, evl_cons, Int.mul_add, ih h1.2]
    have h2 := Int.tmod_add_mul_tdiv m.2 g
    rw [h1.1, Int.zero_add] at h2
    simp only
    rw [← Int.mul_assoc, h2]
theorem up_le {c g s : Int} (hg : 1 ≤ g) (h : c + g * s ≤ 0) : upI c g + s ≤ 0 := by
  have h2 := Int.tmod_add_mul_tdiv c g
  have h3 : c.tmod g < g := Int.tmod_lt_of_pos _ (by omega)
  have h4 : -g < c.tmod g := by
    have := Int.lt_tmod_of_pos c (show (0 : Int) < g by omega)
    omega
  unfold upI
  generalize c.tmod g = r at h2 h3 h4 ⊢
  generalize c.tdiv g = q at h2 ⊢
  subst h2
  have h5 : r + g * (q + s) ≤ 0 := by rw [Int.mul_add]; omega
  have key : ∀ t : Int, 1 ≤ t → g ≤ g * t := fun t ht => by
    have := Int.mul_le_mul_of_nonneg_left ht (show 0 ≤ g by omega)
    omega
  have key0 : ∀ t : Int, 0 ≤ t → 0 ≤ g * t := fun t ht => Int.mul_nonneg (by omega) ht
  split
  · by_cases h : 0 ≤ q + s
    · have := key0 _ h; omega
    · omega
  · by_cases h : 1 ≤ q + s
    · have := key _ h; omega
    · omega
theorem line_le {zs : List Int} {ls : List (Int × List (Int × Int))} {s : List (Int × Int) × Int} (hok : lsOk ls) (hs : tellS ls s = 0) (h : allLe zs ls) : fval zs (lineS ls s) ≤ 0 := by
  have ht := tellS_took hok hs
  refine up_le ht.div.1 ?_
  show cTo ls s.1 s.1.length + s.2 * evl zs (divT s.2 (sumOf (tTo ls s.1 s.1.length))) ≤ 0
  rw [evl_div ht.all, evl_sumOf]
  exact parts_le ht.parts h _ (Nat.le_refl _)
theorem lnL_le {zs : List Int} {ls : List (Int × List (Int × Int))} {ss : List (List (Int × Int) × Int)} (hok : lsOk ls) (h : allLe zs ls) : ∀ k, (∀ j, j < k → tellS (lnL ls ss j) (ss.getD j ([], 0)) = 0) → allLe zs (lnL ls ss k)
  | 0, _ => h
  | k + 1, hs => by
    have h1 := lnL_le hok h k (fun j hj => hs j (by omega))
    have h2 := lnL_ok hok k (fun j hj => hs j (by omega))
    intro i hi
    rw [lnL_len] at hi
    by_cases e : i < ls.length + k
    · have := h1 i (by rw [lnL_len]; exact e)
      rw [lnL]
      simp only [List.getD_eq_getElem?_getD] at this ⊢
      rw [List.getElem?_append_left (by rw [lnL_len]; exact e)]
      exact this
    · have e2 : i = (lnL ls ss k).length := by rw [lnL_len]; omega
      subst e2
      rw [lnL]
      simp only [List.getD_eq_getElem?_getD]
      rw [List.getElem?_concat_length, Option.getD_some]
      exact line_le h2 (by have := hs k (by omega); simpa only [List.getD_eq_getElem?_getD] using this) h1
theorem hasR_le {zs : List Int} {L : List (Int × List (Int × Int))} (h : allLe zs L) : hasR L = false := hasR_none fun i hi ⟨h1, h2⟩ => by
  have := h i hi
  unfold fval at this
  rw [List.eq_nil_of_length_eq_zero h1, evl_nil] at this
  omega
end Go.Proofs.Ytmjhjacbhflcpaa

namespace Go.Proofs.Ytmjhjacbhflcpaa
open Go.RowKit Go.Maps

/-- The document's Value of a sound form. -/
theorem rvalue_sound (c : Int) (ta : Option Addr) (tcap : Nat) (t : List (Int × Int)) (a2 : Option Addr) (n2 cap2 : Nat) (zs : List Int) (w : World) (hn2 : zs.length = n2) (hm2 : n2 ≤ 9223372036854775807) (hl : Lies w.heap.size w ta t) (hz : Nums w.heap.size w a2 zs) (hs : snd c t = true) :
    ∃ v r : Int, ((r = 0 ∧ v = fval zs (c, t)) ∨ (r = 1 ∧ v = 0)) ∧ ∀ W, Below w.heap.size w W → Calls Try.prog 8 #[.agg #[.int .i64 c, .slice ta t.length tcap], .slice a2 n2 cap2] W fun e w' => e = .returned (.tuple #[.int .i64 v, .int .i64 r]) ∧ Below W.heap.size W w' := by
  by_cases h : ∀ i, i < t.length → near t zs i = true
  · exact ⟨_, 0, .inl ⟨rfl, (fval_sAt zs c t)⟩, fun W hb => rvalue_any c ta t.length tcap t a2 n2 cap2 zs W rfl hn2 hm2 ((hl.below hb).mono hb.size) ((hz.below hb).mono hb.size) hs _ 0 (.inl ⟨rfl, rfl, h⟩)⟩
  · exact ⟨0, 1, .inr ⟨rfl, rfl⟩, fun W hb => rvalue_any c ta t.length tcap t a2 n2 cap2 zs W rfl hn2 hm2 ((hl.below hb).mono hb.size) ((hz.below hb).mono hb.size) hs 0 1 (.inr ⟨rfl, rfl, h⟩)⟩

set_option maxRecDepth 100000 in
set_option maxHeartbeats 2000000 in
theorem cutFollows_any (hup : UpSaid4) (a : Option Addr) (n cap : Nat) (ls : List (Int × List (Int × Int))) (sa : Option Addr) (sn scap : Nat) (ss : List (List (Int × Int) × Int)) (a2 : Option Addr) (n2 cap2 : Nat) (zs : List Int) (w : World) (h : Given w.heap.size w a n ls sa sn ss) (hn2 : zs.length = n2) (hm2 : n2 ≤ 9223372036854775807) (hz : Nums w.heap.size w a2 zs) :
    Calls Try.prog 3 #[.slice a n cap, .slice sa sn scap, .slice a2 n2 cap2] w fun e w' => e = .returned (.bool true) ∧ Below w.heap.size w w' := by
  obtain ⟨x, at', L, hL⟩ := lines_is ls ss
  have HUP := Lib.hid (fun W => hup W)
  have HLI := Lib.hid (fun W (hb : Below w.heap.size w W) => light_any a n cap ls sa sn scap ss W ((h.below hb).mono hb.size))
  have HLN := Lib.hid (fun W (hb : Below w.heap.size w W) => lines_any a n cap ls sa sn scap ss W ((h.below hb).mono hb.size) x at' L hL)
  have HRF := Lib.hid (fun W (hb : Below w.heap.size w W) => refutes_any a n cap ls sa sn scap ss W ((h.below hb).mono hb.size) x at' L hL)
  have HZ := Lib.hid hz
  have HLL := Lib.hid h.ll
  have HLN2 := Lib.hid h.ln
  have HN2 := Lib.hid hn2
  have hnm := h.nm
  have n1 := fun t v W => Try.neIface t v W
  have e1 := fun W => Try.eqCode 8 8 W
  have HIS := Lib.hid hL
  clear hup h hL hz hn2
  go_enter Try.func3, Try.ntmps3
  go_wp2_with fail
  refine (HUP.out _).mono ?_
  rintro e w1 ⟨rfl, hb1⟩
  have B1 := Lib.hid hb1
  clear hb1
  go_wp2_with fail
  refine (HLI.out _ B1.out).mono ?_
  rintro e w2 ⟨b, rfl, rfl⟩
  go_wp2_with fail
  refine (HLN.out _ B1.out).mono ?_
  rintro e w3 ⟨v, er, xs, rfl, hrow, hfs, her, hb3⟩
  have B3 := Lib.hid (B1.out.trans (hb3.mono B1.out.size))
  have HROW := Lib.hid hrow
  have HFS := Lib.hid hfs
  have HER := Lib.hid her
  clear hrow hfs her hb3 HUP HLI HLN B1
  cases b with
  | false =>
    go_wp2_with fail
    go_ret
    exact ⟨rfl, B3.out⟩
  | true =>
    by_cases hx : x = 0
    · obtain ⟨rfl, hok, hst, hLe, hL8⟩ := HIS.out.zero hx
      subst hx
      have her0 := HER.out.1 (by omega)
      rw [codeV_zero] at her0
      subst her0
      have HOK := Lib.hid hok
      have HOKL : Hid (lsOk L) := by rw [hLe]; exact lnL_ok hok _ hst
      have HLE : Hid (allLe zs ls → allLe zs L) := fun h => by rw [hLe]; exact lnL_le hok h _ hst
      clear HIS HER hok hst hLe
      go_wp2_with fail
      go_loopw [11] (fun i wr => ∃ (k : Nat), k ≤ n ∧ i = .int .i64 k ∧ Hid (∀ j, j < k → fval zs (ls.getD j (0, [])) ≤ 0) ∧ Hid (Below w3.heap.size w3 wr)) (fun i _ => n - (intOf i).toNat)
      case atStart => exact ⟨0, Nat.zero_le _, rfl, fun j hj => absurd hj (Nat.not_lt_zero _), Below.refl _ _⟩
      case round =>
        obtain ⟨k, hk, rfl, hle, hb⟩ := hrel
        by_cases hlt : k < n
        · obtain ⟨b, off, ta, tcap, rfl, hblt, c0, c1, hli⟩ := HLL.out k (by rw [HLN2.out]; exact hlt)
          have hbw : Below w.heap.size w wr := B3.out.trans (hb.out.mono B3.out.size)
          rw [← hbw.cell (p := ⟨b, _, none⟩) hblt] at c0 c1
          have hsn := HOK.out k (by rw [HLN2.out]; exact hlt)
          have hnx : fval zs (ls.getD k (0, [])) ≤ 0 → Hid (∀ j, j < k + 1 → fval zs (ls.getD j (0, [])) ≤ 0) := fun h j hj => by
            by_cases e : j = k
            · subst e; exact h
            · exact hle.out j (by omega)
          obtain ⟨ce, te⟩ : ∃ z, z = ls.getD k (0, []) := ⟨_, rfl⟩
          rw [← te] at c0 c1 hli hsn hnx
          clear te
          obtain ⟨c, t⟩ := ce
          simp only at c0 c1 hli hsn
          obtain ⟨vv, r, hvr, hc⟩ := rvalue_sound c ta tcap t a2 n2 cap2 zs w HN2.out hm2 hli HZ.out hsn
          have HC := Lib.hid hc
          have HBW := Lib.hid hbw
          clear hc hbw hli hsn
          rcases hvr with ⟨rfl, hv⟩ | ⟨rfl, rfl⟩
          · have hnx2 : vv ≤ 0 → _ := fun h => hnx (by rw [← hv]; exact h)
            clear hv hnx
            by_cases hv0 : 0 < vv
            · clear hnx2
              go_wp2_with fail
              refine (HC.out _ HBW.out).mono ?_
              rintro e w4 ⟨rfl, hb4⟩
              have HB4 := Lib.hid (HBW.out.trans (hb4.mono HBW.out.size))
              clear hb4 c0 c1
              go_wp2_with fail
              go_ret
              exact ⟨rfl, HB4.out⟩
            · have HNX := hnx2 (by omega)
              clear hnx2
              go_wp2_with fail
              refine (HC.out _ HBW.out).mono ?_
              rintro e w4 ⟨rfl, hb4⟩
              have HB4 := Lib.hid (hb.out.trans (hb4.mono hb.out.size))
              clear hb4 c0 c1
              go_wp2_with fail
              refine ⟨⟨k + 1, by omega, by go_num, HNX, HB4⟩, by simp [intOf]; omega⟩
          · clear hnx
            go_wp2_with fail
            refine (HC.out _ HBW.out).mono ?_
            rintro e w4 ⟨rfl, hb4⟩
            have HB4 := Lib.hid (HBW.out.trans (hb4.mono HBW.out.size))
            clear hb4 c0 c1
            go_wp2_with fail
            go_ret
            exact ⟨rfl, HB4.out⟩
        · obtain rfl : k = n := by omega
          have hLE := HLE.out (fun i hi => hle.out i (by rw [HLN2.out] at hi; exact hi))
          have HALL := Lib.hid hLE
          rw [show refX 0 L = 8 by unfold refX; rw [if_pos rfl, if_neg (by rw [hasR_le hLE]; decide)]] at HRF
          obtain ⟨wo, rfl⟩ : ∃ wo : World, wo = wr := ⟨_, rfl⟩
          obtain ⟨la, lcap, rfl, hll⟩ := (HROW.out.below hb.out).llies
          rw [HFS.out] at hll
          have hxl : L.length = xs.length := by rw [← HFS.out, lforms_len]
          have HLX := Lib.hid hll
          have hxm : xs.length ≤ 8192 := by omega
          have HXL := Lib.hid hxl
          have B4 := Lib.hid (B3.out.trans (hb.out.mono B3.out.size))
          clear hLE hll hxl HLE hle hb HLL HOK HROW HFS B3 hL8
          go_wp2_with fail
          go_loopw [14] (fun i wr => ∃ (k : Nat), k ≤ xs.length ∧ i = .int .i64 k ∧ Hid (Below wo.heap.size wo wr)) (fun i _ => xs.length - (intOf i).toNat)
          case atStart => exact ⟨0, Nat.zero_le _, rfl, Below.refl _ _⟩
          case round =>
            obtain ⟨j, hj, rfl, hb⟩ := hrel
            have B5 := Lib.hid (B4.out.trans (hb.out.mono B4.out.size))
            by_cases hjt : j < xs.length
            · obtain ⟨b, off, ta, tcap, rfl, hblt, c0, c1, hli⟩ := (HLX.out.below hb.out) j (by rw [HXL.out]; exact hjt)
              have hsn := HOKL.out j (by rw [HXL.out]; exact hjt)
              have hv0 := HALL.out j (by rw [HXL.out]; exact hjt)
              obtain ⟨ce, te⟩ : ∃ z, z = L.getD j (0, []) := ⟨_, rfl⟩
              rw [← te] at c0 c1 hli hsn hv0
              clear te
              obtain ⟨c, t⟩ := ce
              simp only at c0 c1 hli hsn
              obtain ⟨vv, r, hvr, hc⟩ := rvalue_sound c ta tcap t a2 n2 cap2 zs wr HN2.out hm2 (hli.mono hb.out.size) ((HZ.out.below B5.out).mono B5.out.size) hsn
              have HC := Lib.hid (hc wr (Below.refl _ _))
              clear hc hli hsn
              rcases hvr with ⟨rfl, hv⟩ | ⟨rfl, rfl⟩
              · have hvn : ¬ 0 < vv := by omega
                clear hv hv0
                go_wp2_with fail
                refine HC.out.mono ?_
                rintro e w4 ⟨rfl, hb4⟩
                have HB4 := Lib.hid (hb.out.trans (hb4.mono hb.out.size))
                clear hb4 c0 c1
                go_wp2_with fail
                refine ⟨⟨j + 1, by omega, by go_num, HB4⟩, by simp [intOf]; omega⟩
              · clear hv0
                go_wp2_with fail
                refine HC.out.mono ?_
                rintro e w4 ⟨rfl, hb4⟩
                have HB4 := Lib.hid (hb.out.trans (hb4.mono hb.out.size))
                clear hb4 c0 c1
                go_wp2_with fail
                refine ⟨⟨j + 1, by omega, by go_num, HB4⟩, by simp [intOf]; omega⟩
            · obtain rfl : j = xs.length := by omega
              go_wp2_with fail
              refine (HRF.out _ B5.out).mono ?_
              rintro e w6 ⟨er, rfl, her, hb6⟩
              rw [her.1 (by omega), codeV_ne (by decide)]
              have HB6 := Lib.hid (B5.out.trans (hb6.mono B5.out.size))
              clear her hb6
              go_wp2_with fail
              go_ret
              exact ⟨rfl, HB6.out⟩
    · obtain ⟨t9, v9, rfl⟩ := HER.out.iface hx
      go_wp2_with fail
      go_ret
      exact ⟨rfl, B3.out⟩
end Go.Proofs.Ytmjhjacbhflcpaa

namespace Go.Proofs.Ytmjhjacbhflcpaa
open Go.ChangeShapes Go.WideShapes Go.RowKit Go.Deep

section
variable {H : Type} {enc : TypeId × Value → H} {P : Program} {w : World} {base : Nat} {spare : Nat → Bool} {held : Bool}
/-- A slice of structs of one-cell fields. -/
theorem open_slice_fields {t e : TypeId} {fs : Array Field} {fuel : Nat} {cs : List Value} {x : DataW H × List MemPlace} (ht : P.underlying t = some (.slice e)) (he : P.underlying e = some (.struct fs))
    (hone : oneCellFields P fs = true) (hC : P.cellsOf e = fs.size) (h : DataW.trod enc P w base spare held fuel t cs = some x) :
    (cs = [.slice none 0 0] ∧ x = (.nil, [])) ∨
    ∃ (a : Addr) (len cap m : Nat), cs = [.slice (some a) len cap] ∧ len ≤ cap ∧ cap ≤ maxLen ∧ len ≤ m ∧
      ∀ i, i < m → ∃ (n : Nat),
        ∀ (j : Nat) (f : Field), fs[j]? = some f → ∃ (v : Value) (y : DataW H × List MemPlace), w.cell? (a.add (i * fs.size + j)) = some v ∧ DataW.trod enc P w base spare held n f.type [v] = some y := by
  rcases open_slice ht h with h0 | ⟨a, len, cap, m, n, D, Pl, hcs, _, hl, hm, hmm, _, hi⟩
  · exact .inl h0
  · refine .inr ⟨a, len, cap, m, hcs, hl, hm, by rw [hmm]; split <;> omega, fun i him => ?_⟩
    obtain ⟨cs', hc, ht'⟩ := hi i him
    rw [hC] at hc
    obtain ⟨ys, n', _, _, _, hyl, hf⟩ := DataW.trod_struct he ht'
    obtain ⟨_, hcl, hat⟩ := World.cells?_some hc
    refine ⟨n', fun j f hj => ?_⟩
    obtain ⟨ho, hk⟩ := hone_of hone j f hj
    have hjl : j < fs.size := (Array.getElem?_eq_some_iff.1 hj).1
    have hcell := hat j hjl
    have hv : cs'[j]? = some (cs'[j]'(by omega)) := List.getElem?_eq_getElem (by omega)
    have h1 := hf j f hj
    rw [ho, hk] at h1
    have hone' : (cs'.drop j).take 1 = [cs'[j]'(by omega)] := by
      rw [List.drop_eq_getElem_cons (by omega)]
      rfl
    rw [hone'] at h1
    have hys : ys[j]? = some (ys[j]'(by omega)) := List.getElem?_eq_getElem (by omega)
    refine ⟨_, _, ?_, h1.trans hys⟩
    rw [← Go.Deep.add_add, hcell, hv]
end

/-- A list of terms that came in. -/
def Came (w : World) (a : Option Addr) (n cap : Nat) (l : List (Int × Int)) : Prop :=
  l.length = n ∧ n ≤ cap ∧ cap ≤ maxLen ∧ (a = none → n = 0 ∧ cap = 0) ∧ Lies w.heap.size w a l ∧ ∀ m ∈ l, (Lit.int .i64 m.1).wf = true ∧ (Lit.int .i64 m.2).wf = true

theorem list_of (n : Nat) (p : Nat → Int × Int → Prop) (h : ∀ i, i < n → ∃ m, p i m) : ∃ l : List (Int × Int), l.length = n ∧ ∀ i, i < n → p i (l.getD i (0, 0)) := by
  induction n with
  | zero => exact ⟨[], rfl, fun i hi => absurd hi (Nat.not_lt_zero i)⟩
  | succ n ih =>
    obtain ⟨l, hl, hp⟩ := ih (fun i hi => h i (by omega))
    obtain ⟨m, hm⟩ := h n (by omega)
    refine ⟨l ++ [m], by simp [hl], fun i hi => ?_⟩
    by_cases e : i = n
    · subst e
      rw [List.getD_eq_getElem?_getD, List.getElem?_append_right (by omega), hl]
      simpa using hm
    · have := hp i (by omega)
      rw [List.getD_eq_getElem?_getD] at this ⊢
      rwa [List.getElem?_append_left (by omega)]

section
variable {H : Type} {enc : TypeId × Value → H} {w : World} {base : Nat} {spare : Nat → Bool} {held : Bool}
theorem open_monos {fuel : Nat} {v : Value} {x : DataW H × List MemPlace} (h : DataW.trod enc Try.prog w base spare held fuel 33 [v] = some x) : ∃ a n cap l, v = .slice a n cap ∧ Came w a n cap l := by
  rcases open_slice_fields Try.underlying33 Try.underlying41 (by kernel_rfl) (by kernel_rfl) h with ⟨hcs, _⟩ | ⟨a, len, cap, m, hcs, hl, hm, hlm, hi⟩
  · injection hcs with hv
    exact ⟨none, 0, 0, [], hv, rfl, Nat.le_refl _, Nat.zero_le _, fun _ => ⟨rfl, rfl⟩, fun i hi => absurd hi (Nat.not_lt_zero i), fun m hm => by cases hm⟩
  · injection hcs with hv
    have hp : ∀ i, i < len → ∃ m : Int × Int, w.cell? (a.add (i * 2)) = some (.int .i64 m.1) ∧ w.cell? (a.add (i * 2 + 1)) = some (.int .i64 m.2) ∧ (Lit.int .i64 m.1).wf = true ∧ (Lit.int .i64 m.2).wf = true := by
      intro i hil
      obtain ⟨n, hf⟩ := hi i (by omega)
      obtain ⟨v0, y0, c0, t0⟩ := hf 0 _ rfl
      obtain ⟨v1, y1, c1, t1⟩ := hf 1 _ rfl
      obtain ⟨x0, e0, _, w0⟩ := DataW.trod_int Try.underlying3 t0
      obtain ⟨x1, e1, _, w1⟩ := DataW.trod_int Try.underlying3 t1
      injection e0 with e0
      injection e1 with e1
      subst e0 e1
      exact ⟨(x0, x1), c0, c1, w0, w1⟩
    obtain ⟨l, hll, hlp⟩ := list_of len _ hp
    refine ⟨some a, len, cap, l, hv, hll, hl, hm, (fun e => by cases e), fun i hi => ?_, fun m hm => ?_⟩
    · obtain ⟨c0, c1, _, _⟩ := hlp i (by omega)
      obtain ⟨b, off, spot⟩ := a
      have hs : spot = none := by
        have := World.cell?_spot c1
        by_cases h0 : spot = none
        · exact h0
        · have c00 := (hlp 0 (by omega)).1
          simpa [Addr.add] using World.cell?_spot c00
      subst hs
      refine ⟨b, off, rfl, ?_, ?_, ?_⟩
      · have := block_lt_of_cell c1
        simpa [Addr.add] using this
      · rw [Go.WideShapes.add_plain] at c0; exact c0
      · rw [Go.WideShapes.add_plain] at c1; exact c1
    · obtain ⟨i, hi, rfl⟩ := List.getElem_of_mem hm
      have := hlp i (by omega)
      rw [List.getD_eq_getElem?_getD, List.getElem?_eq_getElem hi] at this
      exact this.2.2

set_option maxRecDepth 100000 in
/-- Numbers that came in. -/
theorem open_nums {r : Reach} {b0 : Nat} {v : Value} {d : DataW H} {p : List MemPlace} (hv : Value.okWide Try.prog w r b0 24 v) (h : DataW.Trod enc Try.prog w base spare held 24 v d p) :
    ∃ (a : Option Addr) (n cap : Nat) (zs : List Int), v = .slice a n cap ∧ zs.length = n ∧ n ≤ cap ∧ cap ≤ maxLen ∧ (∀ i, i < zs.length → ∃ b off, a = some ⟨b, off, none⟩ ∧ b < w.heap.size ∧ w.cell? ⟨b, off + i, none⟩ = some (.int .i64 (zs.getD i 0))) ∧ ∀ m ∈ zs, (Lit.int .i64 m).wf = true := by
  obtain ⟨a, len, cap, rfl⟩ := okWide_slice Try.underlying24 hv
  obtain ⟨fuel, hf⟩ := h
  rcases open_ints Try.underlying24 Try.underlying3 (by kernel_rfl) hf with ⟨hcs, _⟩ | ⟨x, l, c, zs, hcs, _, hl, hm, hz, _, hcell, hwz⟩
  · simp [Value.cells] at hcs
    obtain ⟨rfl, rfl, rfl⟩ := hcs
    exact ⟨none, 0, 0, [], rfl, rfl, Nat.le_refl _, Nat.zero_le _, fun i hi => absurd hi (Nat.not_lt_zero i), fun m hm => by cases hm⟩
  · simp [Value.cells] at hcs
    obtain ⟨rfl, rfl, rfl⟩ := hcs
    have hz' : len ≤ zs.length := by rw [hz]; split <;> omega
    clear hz
    refine ⟨some x, len, cap, zs.take len, rfl, by simp; omega, hl, hm, fun i hi => ?_, fun m hm => hwz m (List.mem_of_mem_take hm)⟩
    have hi' : i < len := by rw [List.length_take] at hi; omega
    obtain ⟨b, off, rfl, hc⟩ := ints_at hcell (by omega)
    have h1 := hc i (by omega)
    refine ⟨b, off, rfl, by simpa using block_lt_of_cell h1, ?_⟩
    rw [h1]
    simp [List.getD_eq_getElem?_getD, hi']
set_option maxRecDepth 100000 in
/-- A form that came in. -/
theorem open_lin {r : Reach} {b0 : Nat} {v : Value} {d : DataW H} {p : List MemPlace} (hv : Value.okWide Try.prog w r b0 35 v) (h : DataW.Trod enc Try.prog w base spare held 35 v d p) :
    ∃ c a n cap l, v = .agg #[.int .i64 c, .slice a n cap] ∧ Came w a n cap l ∧ (Lit.int .i64 c).wf = true := by
  obtain ⟨v0, v1, y0, y1, n, rfl, _, _, h0, h1⟩ := Joins.open_agg2 Try.underlying35 (by kernel_rfl) (by kernel_rfl) hv h
  obtain ⟨x0, e0, _, w0⟩ := DataW.trod_int Try.underlying3 h0
  injection e0 with e0
  subst e0
  obtain ⟨a, n, cap, l, rfl, hc⟩ := open_monos h1
  exact ⟨x0, a, n, cap, l, rfl, hc, w0⟩
end
end Go.Proofs.Ytmjhjacbhflcpaa
