/- The document's own sum of terms. -/
import Derived.Test.YtnefolkhoeocjaaLinS2
import Derived.Test.YtnefolkhoeocjaaLinF
namespace Go.Proofs.Ytnefolkhoeocjaa
open Go.RowKit

/-- What the document's Sum has made so far: its result's block, and its list's. -/
structure SumAt (w W : World) (N : Nat) (c : Int) (T : List (Int × Int)) : Prop where
  lt : N + 1 < W.heap.size
  r0 : W.cell? ⟨N, 0, none⟩ = some (.int .i64 0)
  r1 : W.cell? ⟨N, 1, none⟩ = some (.slice none 0 0)
  rf : ∀ o, W.frozen? ⟨N, o, none⟩ = false
  o0 : W.cell? ⟨N + 1, 0, none⟩ = some (.int .i64 c)
  o1 : ∃ v, W.cell? ⟨N + 1, 1, none⟩ = some v ∧ Row (N + 2) T v W
  ofr : ∀ o, W.frozen? ⟨N + 1, o, none⟩ = false
  bel : Below N w W
theorem sum_start (w : World) (c : Int) : SumAt w ((w.alloc (.cells #[.int .i64 0, .slice none 0 0] 24)).alloc (.cells #[.int .i64 c, .slice none 0 0] 24)) w.heap.size c [] :=
  ⟨by simp, by simp [go_sem], by simp [go_sem], fun o => by simp [go_sem], by simp [go_sem], ⟨.slice none 0 0, by simp [go_sem], World.ownsRow_nil _ _ _ _⟩, fun o => by simp [go_sem], ((Below.refl _ w).alloc (Nat.le_refl _) _).alloc (by simp) _⟩
theorem SumAt.drewN {w W : World} {N : Nat} {c : Int} {T : List (Int × Int)} (h : SumAt w W N c T) (q : Nat) : SumAt w (W.drewN q) N c T :=
  ⟨h.lt, h.r0, h.r1, h.rf, h.o0, h.o1, h.ofr, below_drewN h.bel q⟩

theorem SumAt.push {w W W1 : World} {N : Nat} {c : Int} {T T' : List (Int × Int)} {v' : Value} (h : SumAt w W N c T) (hb : Below (N + 2) W W1) (hrow : Row (N + 2) T' v' W1) : SumAt w (W1.setCell ⟨N + 1, 1, none⟩ v') N c T' := by
  have hz := hb.size
  have hlt := h.lt
  have e1 := (hb.cell (p := ⟨N + 1, 1, none⟩) (show N + 1 < N + 2 by omega))
  obtain ⟨v, o1, _⟩ := h.o1
  refine ⟨by rw [World.size_setCell]; omega, ?_, ?_, fun o => ?_, ?_, ⟨v', World.cell?_setCell_same _ _ _ (e1.trans o1), ownsRow_setCell_below hrow (by show N + 1 < N + 2; omega) _⟩, fun o => ?_, (h.bel.trans (hb.mono (by omega))).setCell (p := ⟨N + 1, 1, none⟩) (Nat.le_succ _) _⟩
  · rw [World.cell?_setCell_other _ _ _ _ (by simp)]; exact (hb.cell (p := ⟨N, 0, none⟩) (show N < N + 2 by omega)).trans h.r0
  · rw [World.cell?_setCell_other _ _ _ _ (by simp)]; exact (hb.cell (p := ⟨N, 1, none⟩) (show N < N + 2 by omega)).trans h.r1
  · rw [World.frozen?_setCell]; exact (hb.frozen (p := ⟨N, o, none⟩) (show N < N + 2 by omega)).trans (h.rf o)
  · rw [World.cell?_setCell_other _ _ _ _ (by simp)]; exact (hb.cell (p := ⟨N + 1, 0, none⟩) (show N + 1 < N + 2 by omega)).trans h.o0
  · rw [World.frozen?_setCell]; exact (hb.frozen (p := ⟨N + 1, o, none⟩) (show N + 1 < N + 2 by omega)).trans (h.ofr o)

def farB (c : Int) (R : List (Int × Int)) (L : Int) : Bool := !(wi c 1073741824 && okTo R L)

/-- What the document's Sum answers. -/
def RSum (c : Int) (R : List (Int × Int)) (B : Nat) (w : World) (e : Ending) (w' : World) : Prop :=
  Below B w w' ∧ if farB c R 1048576 = true then e = .returned (.tuple #[.agg #[.int .i64 0, .slice none 0 0], .int .i64 3])
    else if 64 < R.length then e = .returned (.tuple #[.agg #[.int .i64 0, .slice none 0 0], .int .i64 2])
    else ∃ v, e = .returned (.tuple #[.agg #[.int .i64 c, v], .int .i64 0]) ∧ Row B R v w'

set_option maxHeartbeats 4000000 in
set_option maxRecDepth 100000 in
theorem rsum_any (c : Int) (a : Option Addr) (n cap : Nat) (l R : List (Int × Int)) (w : World) (hn : l.length = n) (hm : n ≤ 8192) (hl : Lies w.heap.size w a l) (hbd : Bd 4398046511104 l) (hV : ∀ m ∈ l, 0 ≤ m.1 ∧ m.1 < 1048576) (hR : IsSum l R) :
    Calls Try.prog 33 #[.int .i64 c, .slice a n cap] w (RSum c R w.heap.size w) := by
  obtain ⟨i0, hi, hz0, hz1, hz2⟩ := info_parts Try.infoMono
  have hco := fun W => coef_any c W
  have HN := Lib.hid hn
  have HL := Lib.hid hl
  have HBD := Lib.hid hbd
  have HV := Lib.hid hV
  have HR := Lib.hid hR
  have S0 := Lib.hid (sum_start w c)
  have HF0 : Hid ((!(wi c 1073741824)) = farB c R (-1)) := by
    show _ = _
    unfold farB okTo
    rw [upTo_start hR hV]; simp
  clear hn hl hbd hV hR
  generalize hwc : wi c 1073741824 = wc at hco HF0
  clear hwc
  go_enter Try.func33, Try.ntmps33
  go_wp2_with (go_at_call 27; refine (hco _).mono ?_; rintro e w' ⟨rfl, rfl⟩)
  go_loopw [7, 8] (fun far last wr => ∃ L : Int, -1 ≤ L ∧ L < 1048576 ∧ last = .int .i64 L ∧ far = .bool (farB c R L) ∧ Hid (SumAt w wr w.heap.size c (upTo R L))) (fun _ last _ => (1048576 - intOf last).toNat)
  case atStart => exact ⟨-1, by omega, by omega, rfl, by rw [HF0.out], by show SumAt _ _ _ _ _; rw [upTo_start HR.out HV.out]; exact S0.out⟩
  case round =>
    obtain ⟨L, hL1, hL2, rfl, rfl, hS⟩ := hrel
    generalize hfb : farB c R L = fb
    have HFB := Lib.hid hfb
    clear hfb
    obtain ⟨wo, rfl⟩ : ∃ wo : World, wo = wr := ⟨_, rfl⟩
    go_wp2_with fail
    go_loop [9, 10] (fun v i => ∃ k : Nat, k ≤ n ∧ i = .int .i64 k ∧ v = .int .i64 (nv L (l.take k))) (fun _ i => n - (intOf i).toNat)
    case atStart => exact ⟨0, Nat.zero_le _, rfl, rfl⟩
    case round =>
      obtain ⟨k, hk, rfl, rfl⟩ := hrel
      by_cases hlt : k < n
      · obtain ⟨b, off, rfl, hblt, c1, c2⟩ := (HL.out.below hS.out.bel) k (by rw [HN.out]; exact hlt)
        have hst := nv_snoc L (l.take k) (l.getD k (0, 0))
        rw [← take_snoc l k (by rw [HN.out]; exact hlt)] at hst
        unfold nvStep at hst
        generalize nv L (l.take k) = v at hst
        generalize (l.getD k (0, 0)).1 = x at c1 hst
        by_cases tA : L < x
        · by_cases tB : v < 0
          · have HT : Hid (nv L (l.take (k + 1)) = x) := hst.trans (if_pos ⟨tA, .inl tB⟩)
            clear hst c2
            go_wp2_with fail
            go_round
            case rel => exact ⟨k + 1, by omega, by go_num, by rw [HT.out]⟩
            case measure => simp [intOf]; omega
          · by_cases tC : x < v
            · have HT : Hid (nv L (l.take (k + 1)) = x) := hst.trans (if_pos ⟨tA, .inr tC⟩)
              clear hst c2
              go_wp2_with fail
              go_round
              case rel => exact ⟨k + 1, by omega, by go_num, by rw [HT.out]⟩
              case measure => simp [intOf]; omega
            · have HT : Hid (nv L (l.take (k + 1)) = v) := hst.trans (if_neg (by omega))
              clear hst c2
              go_wp2_with fail
              go_round
              case rel => exact ⟨k + 1, by omega, by go_num, by rw [HT.out]⟩
              case measure => simp [intOf]; omega
        · have HT : Hid (nv L (l.take (k + 1)) = v) := hst.trans (if_neg (by omega))
          clear hst c2
          go_wp2_with fail
          go_round
          case rel => exact ⟨k + 1, by omega, by go_num, by rw [HT.out]⟩
          case measure => simp [intOf]; omega
      · have hkn : k = l.length := by rw [HN.out]; omega
        have hsp := nv_spec L l HV.out l.length (Nat.le_refl _)
        rw [List.take_length] at hsp
        rw [show l.take k = l by rw [hkn]; exact List.take_length]
        generalize hv : nv L l = v at hsp
        clear hkn hv
        rcases hsp with ⟨rfl, hend⟩ | ⟨hv0, hv1, hvL, hmin⟩
        · obtain ⟨l1, r0, r1, rf, o0, ⟨v1, o1, hrow⟩, ofr, bel⟩ := hS.out
          have hup : upTo R L = R := upTo_end HR.out hend
          have hfar : farB c R 1048576 = fb := by
            rw [← HFB.out]
            unfold farB okTo
            rw [hup, upTo_end HR.out (fun m hm => by have := HV.out m hm; omega)]
          rw [hup] at hrow
          obtain ⟨a1, cap1, rfl, _, _⟩ := hrow.lies
          have hrowf : ∀ x y, Row w.heap.size R (.slice a1 R.length cap1) ((wo.setCell ⟨w.heap.size, 0, none⟩ x).setCell ⟨w.heap.size, 1, none⟩ y) := fun x y =>
            Row.mono (ownsRow_setCell_below (ownsRow_setCell_below hrow (by simp) _) (by simp) _) (by omega)
          have hbf : ∀ x y, Below w.heap.size w ((wo.setCell ⟨w.heap.size, 0, none⟩ x).setCell ⟨w.heap.size, 1, none⟩ y) := fun x y =>
            (bel.setCell (p := ⟨w.heap.size, 0, none⟩) (Nat.le_refl _) x).setCell (p := ⟨w.heap.size, 1, none⟩) (Nat.le_refl _) y
          have hres := fun x y => res_cells wo w.heap.size x y _ _ r0 r1
          have HRF := Lib.hid hrowf
          have HBF := Lib.hid hbf
          have HRES := Lib.hid hres
          clear hend hup hrow hrowf hbf hres bel HFB
          cases fb with
          | true =>
            go_wp2_with fail
            refine bodyPost_ret (v := .tuple #[.agg #[.int .i64 0, .slice none 0 0], .int .i64 3]) ?_ rfl ⟨HBF.out _ _, by rw [if_pos hfar]⟩
            obtain ⟨e0, e1⟩ := HRES.out (.int .i64 0) (.slice none 0 0)
            clear r0 r1 rf o0 o1 ofr
            simp [results, Try.results33, go_sem, e0, e1]
          | false =>
            by_cases h64 : 64 < R.length
            · go_wp2_with fail
              refine bodyPost_ret (v := .tuple #[.agg #[.int .i64 0, .slice none 0 0], .int .i64 2]) ?_ rfl ⟨HBF.out _ _, by rw [if_neg (by rw [hfar]; decide), if_pos h64]⟩
              obtain ⟨e0, e1⟩ := HRES.out (.int .i64 0) (.slice none 0 0)
              clear r0 r1 rf o0 o1 ofr
              simp [results, Try.results33, go_sem, e0, e1]
            · go_wp2_with fail
              refine bodyPost_ret (v := .tuple #[.agg #[.int .i64 c, .slice a1 R.length cap1], .int .i64 0]) ?_ rfl ⟨HBF.out _ _, by rw [if_neg (by rw [hfar]; decide), if_neg h64]; exact ⟨_, rfl, HRF.out _ _⟩⟩
              obtain ⟨e0, e1⟩ := HRES.out (.int .i64 c) (.slice a1 R.length cap1)
              clear r0 r1 rf o0 o1 ofr
              simp [results, Try.results33, go_sem, e0, e1]
        · obtain ⟨l1, r0, r1, rf, o0, ⟨v1, o1, hrow⟩, ofr, bel⟩ := hS.out
          have HCB := Lib.hid (coef_bd l HBD.out v)
          have HST := Lib.hid (upTo_step HR.out hvL hmin)
          have HBEL := Lib.hid bel
          have HROW := Lib.hid hrow
          have HSL := Lib.hid hS.out
          clear hmin bel hrow
          go_wp2_with fail
          go_loop [11, 12] (fun s i => ∃ k : Nat, k ≤ n ∧ i = .int .i64 k ∧ s = .int .i64 (coef (l.take k) v)) (fun _ i => n - (intOf i).toNat)
          case atStart => exact ⟨0, Nat.zero_le _, rfl, rfl⟩
          case round =>
            obtain ⟨k, hk, rfl, rfl⟩ := hrel
            by_cases hlt : k < n
            · obtain ⟨b, off, rfl, hblt, c1, c2⟩ := (HL.out.below HBEL.out) k (by rw [HN.out]; exact hlt)
              have hs := HCB.out k (by rw [HN.out]; omega)
              have hts := take_snoc l k (by rw [HN.out]; exact hlt)
              have hkb := HBD.out (l.getD k (0, 0)) (by rw [List.getD_eq_getElem?_getD, List.getElem?_eq_getElem (by rw [HN.out]; exact hlt)]; simp)
              have HT : Hid (coef (l.take (k + 1)) v = coef (l.take k) v + if (l.getD k (0, 0)).1 = v then (l.getD k (0, 0)).2 else 0) := by
                show _ = _
                rw [hts, coef_append, coef_cons, coef_nil]; omega
              have hs2 : -36028797018963968 ≤ coef (l.take k) v ∧ coef (l.take k) v ≤ 36028797018963968 := by omega
              clear hs hts
              generalize (l.getD k (0, 0)).1 = x at c1 HT
              generalize (l.getD k (0, 0)).2 = u at c2 HT hkb
              generalize coef (l.take k) v = s at HT hs2
              by_cases hx : x = v
              · have HT2 : Hid (coef (l.take (k + 1)) v = s + u) := HT.out.trans (by rw [if_pos hx])
                clear HT
                go_wp2_with fail
                go_round
                case rel => exact ⟨k + 1, by omega, by go_num, by rw [HT2.out]⟩
                case measure => simp [intOf]; omega
              · have HT2 : Hid (coef (l.take (k + 1)) v = s) := HT.out.trans (by rw [if_neg hx]; omega)
                clear HT c2
                go_wp2_with fail
                go_round
                case rel => exact ⟨k + 1, by omega, by go_num, by rw [HT2.out]⟩
                case measure => simp [intOf]; omega
            · have hkn : k = l.length := by rw [HN.out]; omega
              have hKb := HCB.out l.length (Nat.le_refl _)
              rw [List.take_length] at hKb
              rw [show l.take k = l by rw [hkn]; exact List.take_length]
              have hKb2 : -36028797018963968 ≤ coef l v ∧ coef l v ≤ 36028797018963968 := by have := HN.out; omega
              clear hKb hkn
              generalize coef l v = K at hKb2 HST
              have hcK := fun W => coef_any K W
              by_cases hK : K = 0
              · subst hK
                have hstep : upTo R v = upTo R L := by rw [HST.out]; simp
                have HF : Hid (farB c R v = fb) := by show _ = _; rw [← HFB.out]; unfold farB okTo; rw [hstep]
                have HS2 : Hid (SumAt w wo w.heap.size c (upTo R v)) := by show SumAt _ _ _ _ _; rw [hstep]; exact HSL.out
                clear hstep
                rw [show wi 0 1073741824 = true from by decide] at hcK
                go_wp2_with (go_at_call 27; refine (hcK _).mono ?_; rintro e w' ⟨rfl, rfl⟩)
                go_roundw
                case rel => exact ⟨v, by omega, hv1, rfl, by rw [HF.out], HS2⟩
                case measure => simp [intOf]; omega
              · have hstep : upTo R v = upTo R L ++ [(v, K)] := by rw [HST.out, if_neg hK]
                have hKne : (K != 0) = true := by simpa using hK
                have hlen : (upTo R L).length ≤ 8192 := by
                  have h1 := List.length_filter_le (fun m : Int × Int => decide (m.1 ≤ L)) R
                  have h2 := sum_len HR.out
                  have h3 := HN.out
                  unfold upTo; omega
                have HF : Hid (farB c R v = !(!fb && wi K 1073741824)) := by
                  show _ = _
                  rw [← HFB.out]
                  unfold farB okTo
                  rw [hstep, List.all_append]
                  cases wi c 1073741824 <;> cases ((upTo R L).all fun m => wi m.2 1073741824) <;> cases h : wi K 1073741824 <;> simp [h]
                have HST2 := Lib.hid hstep
                generalize upTo R L = r at hlen HROW HST2
                clear hstep HST HCB
                generalize wi K 1073741824 = wk at hcK HF
                go_wp2_with (at_builtin; refine wpList_append_own _ rfl _ _ 22 rfl (w.heap.size + 2) 50 i0 _ 2 16 Try.underlying22 hi hz0 hz1 hz2 rfl (by decide) v1 r.length (flat r) rfl (World.ownsRow.alloc HROW.out _) ⟨wo.heap.size, 0, none⟩ 1 1 [.int .i64 v, .int .i64 K] rfl rfl ?c2 ?c3 ?c4 ?c5 ?c6 ?_)
                case c3 => exact ⟨rfl, rfl⟩
                case c4 => unfold maxLen; omega
                case c5 => omega
                case c6 => omega
                intro v' w1 hown' hgrow _
                have HB1 : Hid (Below (w.heap.size + 2) wo w1) := ((Below.refl (w.heap.size + 2) wo).alloc (by omega) _).grown hgrow (by simp; omega) (fun j hj => (World.ownsRow.lt HROW.out j hj).1)
                have HO : Hid (Row (w.heap.size + 2) (upTo R v) v' w1) := by
                  show Row _ _ _ _
                  rw [HST2.out]
                  unfold Row
                  rw [List.length_append, flat_append]
                  exact hown'
                obtain ⟨a9, cap9, rfl, _, _⟩ := HO.out.lies
                have HS2 := Lib.hid (HSL.out.push HB1.out HO.out)
                have p1 : w1.cell? ⟨w.heap.size + 1, 1, none⟩ = some v1 := (HB1.out.cell (p := ⟨w.heap.size + 1, 1, none⟩) (show w.heap.size + 1 < w.heap.size + 2 by omega)).trans o1
                have pf : ∀ o, w1.frozen? ⟨w.heap.size + 1, o, none⟩ = false := fun o => (HB1.out.frozen (p := ⟨w.heap.size + 1, o, none⟩) (show w.heap.size + 1 < w.heap.size + 2 by omega)).trans (ofr o)
                have pz : w.heap.size + 1 < w1.heap.size := by have := HB1.out.size; omega
                clear hown' hgrow
                cases wk with
                | true =>
                  have HF2 : Hid (farB c R v = fb) := HF.out.trans (by cases fb <;> rfl)
                  go_wp2_with (go_at_call 27; refine (hcK _).mono ?_; rintro e w' ⟨rfl, rfl⟩)
                  go_roundw
                  case rel => exact ⟨v, by omega, hv1, rfl, by rw [HF2.out], HS2⟩
                  case measure => simp [intOf]; omega
                | false =>
                  have HF2 : Hid (farB c R v = true) := HF.out.trans (by cases fb <;> rfl)
                  go_wp2_with (go_at_call 27; refine (hcK _).mono ?_; rintro e w' ⟨rfl, rfl⟩)
                  go_roundw
                  case rel => exact ⟨v, by omega, hv1, rfl, by rw [HF2.out], HS2⟩
                  case measure => simp [intOf]; omega
end Go.Proofs.Ytnefolkhoeocjaa
