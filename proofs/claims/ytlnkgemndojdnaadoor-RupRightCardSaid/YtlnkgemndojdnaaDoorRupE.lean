/- The document's Check: its walk. -/
import Derived.Test.YtlnkgemndojdnaaDoorRupD
set_option linter.unusedVariables false
set_option linter.unusedSimpArgs false
namespace Go.Proofs.YtlnkgemndojdnaaDoor
set_option maxRecDepth 100000
open Go.RowKit

def RRupEnd (n : Int) (cs ss : List (List Int)) (w : World) (e : Ending) (w' : World) : Prop :=
  ∃ x at', e = .returned (.tuple #[.int .i64 x, .int .i64 at']) ∧ RupIs n cs ss x at' ∧ Below w.heap.size w w'
theorem getD_app1 {cs ss : List (List Int)} {i : Nat} (hi : i < cs.length) : (cs ++ ss).getD i [] = cs.getD i [] := by
  rw [List.getD_eq_getElem?_getD, List.getElem?_append_left hi, List.getD_eq_getElem?_getD]
theorem negs_snoc (l : List Int) (k : Nat) (h : k < l.length) : negs (l.take k) ++ [-(l.getD k 0)] = negs (l.take (k + 1)) := by
  rw [List.take_succ_eq_append_getElem h]
  rw [negs, negs, List.map_append]
  simp [List.getD_eq_getElem?_getD, h]
theorem dec_bne (x : Int) : (x != 0) = decide (x ≠ 0) := bne_dec x 0
/-- The list of all, made by two appends. -/
structure AllIs (w : World) (m m2 : Nat) (cs ss : List (List Int)) (v : Value) (W : World) : Prop where
  is : ∃ b cap, v = .slice b (m + m2) cap ∧ m + m2 ≤ cap ∧ cap ≤ 9223372036854775807 ∧ CLies W.heap.size W b (cs ++ ss)
  below : Below w.heap.size w W
set_option maxHeartbeats 4000000 in
theorem rrup_any (n : Int) (a : Option Addr) (m cap : Nat) (cs : List (List Int)) (a2 : Option Addr) (m2 cap2 : Nat) (ss : List (List Int)) (w : World) (h1 : GivenC w a m cs) (h2 : GivenC w a2 m2 ss) (hf : Few cs ss) :
    Calls Tryd.prog 10 #[.int .i64 n, .slice a m cap, .slice a2 m2 cap2] w (RRupEnd n cs ss w) := by
  have hm1 := h1.hm
  have hm2 := h2.hm
  have hm3 : m ≤ 200 := by have := hf.l1; omega
  have hm4 : m2 ≤ 100 := by have := hf.l2; omega
  have big : ∀ (l : List (List Int)) (k : Nat), (∀ c, c ∈ l → c.length ≤ 100) → l.length = k → k ≤ 16384 → ∀ j, j < k → (l.getD j []).length ≤ 4611686018427387904 := fun l k hl hk _ j hj => by
    have := hl _ (getD_memC (cs := l) (i := j) (by omega)); omega
  have HCK := Lib.hid (rcheck_any n a m cap cs w h1.hm h1.hmm h1.hl (big cs m hf.k1 hm1))
  by_cases c1 : chkK n cs = 0
  · have HC1 := Lib.hid c1
    rw [c1] at HCK
    have HCA := Lib.hid (fun (W : World) (b : Option Addr) (cap5 : Nat) (hl : CLies W.heap.size W b (cs ++ ss)) => rcheck_any n b (m + m2) cap5 (cs ++ ss) W (by rw [List.length_append]; omega) (by omega) hl (big _ _ hf.k (by rw [List.length_append]; omega)))
    have H1 := Lib.hid h1
    have H2 := Lib.hid h2
    have HF := Lib.hid hf
    obtain ⟨i0, hi, hz0, hz1, hz2⟩ := info_parts Tryd.infoInts
    obtain ⟨i1, hi1, hy0, hy1, hy2⟩ := info_parts Tryd.infoInt
    obtain ⟨xs, ex, hx, hxc⟩ := h1.hl.rows
    obtain ⟨ys, ey, hy, hyc⟩ := h2.hl.rows
    have HXL : Hid (xs.length = m) := by show _ = _; rw [← hm1, ← ex, gforms_len]
    have HYL : Hid (ys.length = m2) := by show _ = _; rw [← hm2, ← ey, gforms_len]
    have B1 : Hid (Below w.heap.size w (w.alloc (.cells #[] 34))) := (Below.refl _ w).alloc (Nat.le_refl _) _
    obtain ⟨v2, w2, hr2, ho2, _, hb2⟩ := run_append_rows (P := Tryd.prog) (w := w.alloc (.cells #[] 34)) w.heap.size 22 22 34 i0 _ Tryd.underlying22 hi hz0 hz1 hz2 rfl _ 0 [] rfl (World.ownsRow_lit w #[] 0 (Nat.le_refl _) (by unfold maxLen; omega) rfl) B1.out.size a m cap xs HXL.out (fun h => by
      obtain ⟨b, off, rfl, hlt, h3⟩ := hxc (by omega)
      exact ⟨b, off, rfl, fun j u hu => (B1.out.cell (p := ⟨b, off + j, none⟩) hlt).trans (h3 j u hu)⟩) (by omega)
    have B2 := Lib.hid (B1.out.trans hb2)
    obtain ⟨v3, w3, hr3, ho3, _, hb3⟩ := run_append_rows (P := Tryd.prog) (w := w2) w.heap.size 22 22 34 i0 _ Tryd.underlying22 hi hz0 hz1 hz2 rfl v2 (0 + m) ([] ++ xs) (by rw [List.nil_append, HXL.out, Nat.zero_add]) ho2 B2.out.size a2 m2 cap2 ys HYL.out (fun h => by
      obtain ⟨b, off, rfl, hlt, h3⟩ := hyc (by omega)
      exact ⟨b, off, rfl, fun j u hu => (B2.out.cell (p := ⟨b, off + j, none⟩) hlt).trans (h3 j u hu)⟩) (by omega)
    have B3 := Lib.hid (B2.out.trans hb3)
    have hk := own_clies (by rw [List.nil_append, List.length_append, HXL.out, HYL.out, Nat.zero_add]) ho3 (fun x hx' => by
      rw [List.nil_append] at hx'
      rcases List.mem_append.1 hx' with h | h
      · exact ((hx x h).below B3.out).mono B3.out.size
      · exact ((hy x h).below B3.out).mono B3.out.size)
    obtain ⟨b, cap5, rfl, hc1, hc2, hc⟩ := hk
    rw [Nat.zero_add] at hc1 hr3
    rw [List.nil_append, gforms_append, ex, ey] at hc
    have HCL := Lib.hid hc
    clear hx hy hxc hyc ex ey ho2 hb2 ho3 hb3 hc B1 B2
    by_cases c2 : chkK n (cs ++ ss) = 0
    · obtain ⟨n0, rfl, hn, _, _, h5⟩ := chkK_zero c2
      have HC2 := Lib.hid c2
      have H5 := Lib.hid h5
      rw [c2] at HCA
      clear c1 c2 h5 h1 h2 hf big
      have HM1 := Lib.hid hm1
      have HM2 := Lib.hid hm2
      clear hm1 hm2
      go_enter Tryd.func10, Tryd.ntmps10
      go_wp2_with fail
      refine HCK.out.mono ?_
      rintro e w1 ⟨rfl, rfl⟩
      go_wp2_with (at_builtin; first | refine Lib.wpList_append_run _ rfl _ _ _ _ rfl _ _ rfl rfl _ _ hr2 ?_ | refine Lib.wpList_append_run _ rfl _ _ _ _ rfl _ _ rfl rfl _ _ hr3 ?_)
      refine (HCA.out _ _ _ HCL.out).mono ?_
      rintro e w4 ⟨rfl, rfl⟩
      go_wp2_with fail
      have HLA : Hid ((cs ++ ss).length = m + m2) := by show _ = _; rw [List.length_append, HM1.out, HM2.out]
      go_loopw [10, 11] (fun em i wr => ∃ (k : Nat) (z : Bool), k ≤ m + m2 ∧ em = .bool z ∧ i = .int .i64 k ∧ Hid (z = true ↔ ∃ q, q < k ∧ ((cs ++ ss).getD q []).length = 0) ∧ Hid (∀ j, m + j < k → OkAt cs ss j) ∧ Hid (Below w3.heap.size w3 wr)) (fun _ i _ => m + m2 - (intOf i).toNat)
      case atStart => exact ⟨0, false, Nat.zero_le _, rfl, rfl, ⟨fun h => (by cases h), fun ⟨q, hq, _⟩ => absurd hq (Nat.not_lt_zero q)⟩, fun j hj => absurd hj (Nat.not_lt_zero _), Below.refl _ _⟩
      case round =>
        obtain ⟨k, z, hk, rfl, rfl, hz, hok, hbr⟩ := hrel
        obtain ⟨wo, rfl⟩ : ∃ wo : World, wo = wr := ⟨_, rfl⟩
        have BR := Lib.hid (B3.out.trans (hbr.out.mono B3.out.size))
        have HCR := Lib.hid ((HCL.out.below hbr.out).mono hbr.out.size)
        by_cases hlt : k < m + m2
        · have hlti : (k : Int) < ((m + m2 : Nat) : Int) := by omega
          have hlti2 : (k : Int) < (m : Int) + (m2 : Int) := by omega
          have hmem := getD_memC (cs := cs ++ ss) (i := k) (by rw [HLA.out]; exact hlt)
          have hcl := HF.out.k _ hmem
          have HIN := Lib.hid (H5.out _ hmem)
          obtain ⟨b3, off3, ta, tcap, hbe, hb3l, d1, dn⟩ := HCR.out k (by rw [HLA.out]; exact hlt)
          have HCLR := HCR
          subst hbe
          have HD1 : Hid (∀ W, Below wo.heap.size wo W → W.cell? ⟨b3, off3 + k, none⟩ = some (.slice ta ((cs ++ ss).getD k []).length tcap)) := fun W hW => (hW.cell (p := ⟨b3, off3 + k, none⟩) hb3l).trans d1
          have HDN := Lib.hid dn
          have HOK : Hid (m ≤ k → (Conf ((cs ++ ss).take k) (negs ((cs ++ ss).getD k [])) ↔ OkAt cs ss (k - m))) := fun h => by
            unfold OkAt
            rw [HM1.out, show m + (k - m) = k by omega, ← getD_app (cs := cs) (ss := ss) (i := k - m) (by rw [HM2.out]; omega), HM1.out, show m + (k - m) = k by omega]
          have HCX : Hid (Ctx n0 ((cs ++ ss).take k) (negs ((cs ++ ss).getD k []))) := ⟨⟨fun c hc => H5.out c (List.mem_of_mem_take hc), negs_in HIN.out⟩, by omega, by rw [List.length_take]; omega, fun c hc => by have := HF.out.k c (List.mem_of_mem_take hc); omega⟩
          have HFO := Lib.hid (fun (W : World) (hb : Below wo.heap.size wo W) (a3 : Option Addr) (cap3 : Nat) (hn5 : Nums W.heap.size W a3 (negs ((cs ++ ss).getD k []))) =>
            rfollow_any HCX.out (some ⟨b3, off3, none⟩) k cap5 a3 ((cs ++ ss).getD k []).length cap3 W (by rw [List.length_take, HLA.out]; omega) (((HCR.out.below hb).mono hb.size).take k) (negs_len _) (by omega) hn5)
          have HZ : Hid (∀ z' : Bool, ((((cs ++ ss).getD k []).length = 0 ∧ z' = true) ∨ (((cs ++ ss).getD k []).length ≠ 0 ∧ z' = z)) → (z' = true ↔ ∃ q, q < k + 1 ∧ ((cs ++ ss).getD q []).length = 0)) := fun z' h => by
            rcases h with ⟨h1, rfl⟩ | ⟨h1, rfl⟩
            · exact ⟨fun _ => ⟨k, by omega, h1⟩, fun _ => rfl⟩
            · refine hz.out.trans ⟨fun ⟨q, h2, h3⟩ => ⟨q, by omega, h3⟩, fun ⟨q, h2, h3⟩ => ⟨q, ?_, h3⟩⟩
              rcases Nat.lt_or_ge q k with h | h
              · exact h
              · obtain rfl : q = k := by omega
                exact absurd h3 h1
          clear hmem dn
          generalize (cs ++ ss).getD k [] = c at hcl HIN d1 HD1 HDN HOK HCX HFO HZ
          obtain ⟨z', hz', HZ'⟩ : ∃ z' : Bool, ((c.length = 0 ∧ z' = true) ∨ (c.length ≠ 0 ∧ z' = z)) ∧ Hid (z' = true ↔ ∃ q, q < k + 1 ∧ ((cs ++ ss).getD q []).length = 0) := by
            by_cases h : c.length = 0
            · exact ⟨true, .inl ⟨h, rfl⟩, HZ.out _ (.inl ⟨h, rfl⟩)⟩
            · exact ⟨z, .inr ⟨h, rfl⟩, HZ.out _ (.inr ⟨h, rfl⟩)⟩
          clear HZ hz
          by_cases hkm : k < m
          · have hkmi : (k : Int) < (m : Int) := by omega
            have hok2 : Hid (∀ j, m + j < k + 1 → OkAt cs ss j) := fun j hj => absurd hj (by omega)
            rcases hz' with ⟨hcz, rfl⟩ | ⟨hcz, rfl⟩
            · rw [hcz] at d1
              clear hok HCX HFO HOK HDN HIN
              go_wp2_with fail
              go_roundw
              case rel => exact ⟨k + 1, true, by omega, rfl, by go_num, HZ', hok2, hbr⟩
              case measure => simp [intOf]; omega
            · have hczi : ((c.length : Int) == 0) = false := beq_eq_false_iff_ne.2 (by omega)
              clear hok HCX HFO HOK HDN HIN
              go_wp2_with fail
              go_roundw
              case rel => exact ⟨k + 1, z', by omega, rfl, by go_num, HZ', hok2, hbr⟩
              case measure => simp [intOf]; omega
          · have hkmi : ¬ (k : Int) < (m : Int) := by omega
            have HOKC := Lib.hid (HOK.out (by omega))
            have HRT : Hid (¬ Conf ((cs ++ ss).take k) (negs c) → ∀ W, Below w.heap.size w W → RRupEnd n0 cs ss w (.returned (.tuple #[.int .i64 9, .int .i64 ((k : Int) - (m : Int))])) W) := fun hn W hb => by
              have := RupIs.step (n := n0) (k - m) HC1.out HC2.out (by rw [HM2.out]; omega) (fun j hj => hok.out j (by omega)) (fun h => hn (HOKC.out.2 h))
              rw [show ((k - m : Nat) : Int) = (k : Int) - (m : Int) by omega] at this
              exact ⟨_, _, rfl, this, hb⟩
            have HNX : Hid (Conf ((cs ++ ss).take k) (negs c) → ∀ j, m + j < k + 1 → OkAt cs ss j) := fun hc j hj => by
              by_cases e : m + j = k
              · have := HOKC.out.1 hc; rwa [show k - m = j by omega] at this
              · exact hok.out j (by omega)
            have hwk : IntKind.i64.wrap ((k : Int) - (m : Int)) = (k : Int) - (m : Int) := IntWalk.i64_in _ (by omega)
            clear hok HOK HOKC
            have HCZ : Hid (((c.length : Int) == 0) = true ∧ z' = true ∨ ((c.length : Int) == 0) = false ∧ z' = z) := by
              show _ ∨ _
              rcases hz' with ⟨h, h2⟩ | ⟨h, h2⟩
              · exact .inl ⟨by simp [h], h2⟩
              · exact .inr ⟨beq_eq_false_iff_ne.2 (by omega), h2⟩
            clear hz'
            rcases HCZ.out with ⟨hcz, rfl⟩ | ⟨hcz, rfl⟩
            all_goals
              clear HCZ
              go_wp2_with fail
              go_loopw [12, 13] (fun nt i wr => ∃ r : Nat, r ≤ c.length ∧ i = .int .i64 r ∧ Hid (IRow wo.heap.size (negs (c.take r)) nt wr) ∧ Hid (Below wo.heap.size wo wr)) (fun _ i _ => c.length - (intOf i).toNat)
              case atStart => exact ⟨0, Nat.zero_le _, rfl, IRow.nil _ _, Below.refl _ _⟩
              case round =>
                obtain ⟨r, hr, rfl, hir, hb4⟩ := hrel
                have e0 := HD1.out _ hb4.out
                by_cases hltr : r < c.length
                · obtain ⟨b5, off5, rfl, h5l, f2⟩ := HDN.out r hltr
                  have f2 := (hb4.out.cell (p := ⟨b5, off5 + r, none⟩) h5l).trans f2
                  have hin := HIN.out (c.getD r 0) (getD_mem0 hltr)
                  have hwn : IntKind.i64.wrap (-(c.getD r 0)) = -(c.getD r 0) := IntWalk.i64_in _ (by unfold inR at hin; omega)
                  have HDR := Lib.hid (negs_snoc c r hltr)
                  have hln : Hid ((negs (c.take r)).length = r) := by show _ = _; rw [negs_len, List.length_take]; omega
                  have hltri : (r : Int) < (c.length : Int) := by omega
                  clear hin
                  generalize c.getD r 0 = y at f2 HDR hwn
                  have HAL : Hid (Below wr.heap.size wr (wr.alloc (.cells #[.int .i64 (-y)] 3))) := (Below.refl _ wr).alloc (Nat.le_refl _) _
                  have HRW : Hid ((wr.alloc (.cells #[.int .i64 (-y)] 3)).ownsRow wo.heap.size 3 1 u12 (negs (c.take r)).length ((negs (c.take r)).map (Value.int .i64))) := hir.out.below HAL.out
                  have NEWS := Lib.hid (World.news_of_block (cs := #[.int .i64 (-y)]) (t := 3) (fr := (0, 0)) (heap_alloc_new wr _))
                  have HB5 : Hid (Below wo.heap.size wo (wr.alloc (.cells #[.int .i64 (-y)] 3))) := hb4.out.trans (HAL.out.mono hb4.out.size)
                  have HBZ : Hid (wo.heap.size ≤ (wr.alloc (.cells #[.int .i64 (-y)] 3)).heap.size) := HB5.out.size
                  clear hb4
                  generalize negs (c.take r) = l9 at HDR hln HRW hir
                  go_wp2_with (at_builtin; refine wpList_append_lies _ rfl _ _ 34 rfl wo.heap.size 3 i1 _ 1 8 Tryd.underlying34 hi1 hy0 hy1 hy2 rfl (by omega) u12 l9.length (l9.map (Value.int .i64)) rfl HRW.out ⟨wr.heap.size, 0, none⟩ 1 1 [.int .i64 (-y)] rfl rfl NEWS.out (by simp [Value.oneCell']) (by omega) (by have := hln.out; unfold maxLen; omega) (by have := hln.out; omega) HBZ.out (wr.heap.size + 1) (by simp) ?_)
                  intro gg cap6 w6 hown6 hgrow6 hat6 hlt6
                  have RN : Hid (IRow wo.heap.size (negs (c.take (r + 1))) (.slice (some ⟨gg, 0, none⟩) (l9.length + 1) cap6) w6) := by
                    show IRow _ _ _ _
                    rw [← HDR.out]; exact IRow.snoc hown6
                  have BN : Hid (Below wo.heap.size wo w6) := HB5.out.grown hgrow6 HBZ.out (fun g hg => (World.ownsRow.lt HRW.out g hg).1)
                  clear hown6 hgrow6 hat6 hlt6 HRW NEWS HBZ HB5 HAL HDR hir
                  go_wp2_with fail
                  go_roundw
                  case rel => exact ⟨r + 1, by omega, by go_num, RN, BN⟩
                  case measure => simp [intOf]; omega
                · obtain rfl : r = c.length := by omega
                  obtain ⟨a3, cap3, rfl, hl3⟩ := hir.out.lies
                  rw [List.take_length] at hl3
                  rw [List.take_length, negs_len]
                  have HN := Lib.hid (hl3.nums (fun b hb => hb.2))
                  have hs1 : ¬ ((k : Int) < 0) := by omega
                  have hs2 : k ≤ cap5 := by omega
                  clear hir hl3 HIN HDN
                  go_wp2_with fail
                  refine (HFO.out wr hb4.out a3 cap3 HN.out).mono ?_
                  rintro e w5 ⟨hb5, v, b, A, rfl, hfi, _, _⟩
                  have HIF := Lib.hid hfi.iff
                  have B5 := Lib.hid (BR.out.trans ((hb4.out.trans (hb5.mono hb4.out.size)).mono BR.out.size))
                  have hb5 : Hid (Below w3.heap.size w3 w5) := hbr.out.trans ((hb4.out.trans (hb5.mono hb4.out.size)).mono hbr.out.size)
                  clear hfi HFO HN hb4
                  cases b with
                  | false =>
                    have HE := Lib.hid (HRT.out (fun h => by have := HIF.out.2 h; cases this) w5 B5.out)
                    clear HRT HNX HIF
                    go_wp2_with fail
                    go_ret2
                    exact HE.out
                  | true =>
                    have HOK2 : Hid (∀ j, m + j < k + 1 → OkAt cs ss j) := HNX.out (HIF.out.1 rfl)
                    clear HRT HNX HIF
                    go_wp2_with fail
                    go_roundw
                    case rel => exact ⟨k + 1, _, by omega, rfl, by go_num, (by first | exact HZ' | exact ⟨fun _ => HZ'.out.1 trivial, fun _ => rfl⟩), HOK2, hb5⟩
                    case measure => simp [intOf]; omega
        · obtain rfl : k = m + m2 := by omega
          have HOKA : Hid (∀ j, j < ss.length → OkAt cs ss j) := fun j hj => hok.out j (by rw [HM2.out] at hj; omega)
          cases z with
          | false =>
            have HNE : Hid (RRupEnd n0 cs ss w (.returned (.tuple #[.int .i64 8, .int .i64 (-1)])) wo) := ⟨_, _, rfl, .opn HC1.out HC2.out HOKA.out (nil_not (fun q hq he => by
              have := hz.out.2 ⟨q, by rw [HLA.out] at hq; exact hq, he⟩; cases this)), BR.out⟩
            clear hz hok HOKA
            go_wp2_with fail
            go_ret2
            exact HNE.out
          | true =>
            have HNE : Hid (RRupEnd n0 cs ss w (.returned (.tuple #[.int .i64 0, .int .i64 (-1)])) wo) := by
              obtain ⟨q, hq, he⟩ := hz.out.1 rfl
              exact ⟨_, _, rfl, .yes HC1.out HC2.out HOKA.out (nil_mem (by rw [HLA.out]; exact hq) he), BR.out⟩
            clear hz hok HOKA
            go_wp2_with fail
            go_ret2
            exact HNE.out
    · have HR : Hid (∀ W, Below w.heap.size w W → RRupEnd n cs ss w (.returned (.tuple #[.int .i64 (chkK n (cs ++ ss)), .int .i64 (-1)])) W) := fun W hb => ⟨_, _, rfl, .two c1 c2, hb⟩
      have hbne : (chkK n (cs ++ ss) != 0) = true := by simp [c2]
      clear h1 h2 hf big hm1 hm2 c1
      generalize chkK n (cs ++ ss) = x at HCA HR hbne c2
      go_enter Tryd.func10, Tryd.ntmps10
      go_wp2_with fail
      refine HCK.out.mono ?_
      rintro e w1 ⟨rfl, rfl⟩
      go_wp2_with (at_builtin; first | refine Lib.wpList_append_run _ rfl _ _ _ _ rfl _ _ rfl rfl _ _ hr2 ?_ | refine Lib.wpList_append_run _ rfl _ _ _ _ rfl _ _ rfl rfl _ _ hr3 ?_)
      refine (HCA.out _ _ _ HCL.out).mono ?_
      rintro e w4 ⟨rfl, rfl⟩
      go_wp2_with fail
      go_ret2
      exact HR.out _ B3.out
  · have HR : Hid (RRupEnd n cs ss w (.returned (.tuple #[.int .i64 (chkK n cs), .int .i64 (-1)])) w) := ⟨_, _, rfl, .one c1, Below.refl _ _⟩
    have hbne : (chkK n cs != 0) = true := by simp [c1]
    clear h1 h2 hf big hm1 hm2
    generalize chkK n cs = x at HCK HR hbne c1
    go_enter Tryd.func10, Tryd.ntmps10
    go_wp2_with fail
    refine HCK.out.mono ?_
    rintro e w1 ⟨rfl, rfl⟩
    go_wp2_with fail
    go_ret2
    exact HR.out
end Go.Proofs.YtlnkgemndojdnaaDoor
