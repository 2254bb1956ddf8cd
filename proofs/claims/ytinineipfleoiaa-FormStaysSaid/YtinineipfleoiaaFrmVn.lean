/- The document's next: the least variable above a number. -/
import Derived.Test.YtinineipfleoiaaFrmV1
namespace Go.Proofs.Ytinineipfleoiaa
open Go.RowKit

/-- The least of a list above a number, or -1. -/
def IsNx (a : Int) (l : List Int) (r : Int) : Prop := (r = -1 ∧ ∀ x ∈ l, ¬ a < x) ∨ (r ∈ l ∧ a < r ∧ ∀ x ∈ l, a < x → r ≤ x)
theorem nx_nil (a : Int) : IsNx a [] (-1) := .inl ⟨rfl, fun x hx => by cases hx⟩
theorem nx_app {a b u : Int} {l l' : List Int} (ha : -1 ≤ a) (h : IsNx a l b) (k : IsNx a l' u) : IsNx a (l ++ l') (if 0 ≤ u ∧ (b < 0 ∨ u < b) then u else b) := by
  rcases k with ⟨rfl, k⟩ | ⟨k1, k2, k3⟩
  · rw [if_neg (by omega)]
    rcases h with ⟨rfl, h⟩ | ⟨h1, h2, h3⟩
    · exact .inl ⟨rfl, fun x hx => by rcases List.mem_append.1 hx with hx | hx; exact h x hx; exact k x hx⟩
    · exact .inr ⟨List.mem_append.2 (.inl h1), h2, fun x hx hax => by rcases List.mem_append.1 hx with hx | hx; exact h3 x hx hax; exact absurd hax (k x hx)⟩
  · by_cases hc : b < 0 ∨ u < b
    · rw [if_pos ⟨by omega, hc⟩]
      refine .inr ⟨List.mem_append.2 (.inr k1), k2, fun x hx hax => ?_⟩
      rcases List.mem_append.1 hx with hx | hx
      · rcases h with ⟨rfl, h⟩ | ⟨h1, h2, h3⟩
        · exact absurd hax (h x hx)
        · have := h3 x hx hax; omega
      · exact k3 x hx hax
    · rw [if_neg (fun hh => hc hh.2)]
      rcases h with ⟨rfl, h⟩ | ⟨h1, h2, h3⟩
      · exact absurd (.inl (by omega)) hc
      · refine .inr ⟨List.mem_append.2 (.inl h1), h2, fun x hx hax => ?_⟩
        rcases List.mem_append.1 hx with hx | hx
        · exact h3 x hx hax
        · have := k3 x hx hax; omega
theorem nx_one (a v : Int) : IsNx a [v] (if a < v then v else -1) := by
  split
  · rename_i h
    exact .inr ⟨by simp, h, fun x hx _ => by obtain rfl := List.mem_singleton.1 hx; omega⟩
  · rename_i h
    exact .inl ⟨rfl, fun x hx => by obtain rfl := List.mem_singleton.1 hx; exact h⟩
theorem nx_add {a b v : Int} {l : List Int} (ha : -1 ≤ a) (h : IsNx a l b) : IsNx a (l ++ [v]) (if a < v ∧ (b < 0 ∨ v < b) then v else b) := by
  have := nx_app ha h (nx_one a v)
  by_cases hv : a < v
  · rw [if_pos hv] at this
    by_cases hc : b < 0 ∨ v < b
    · rw [if_pos ⟨by omega, hc⟩] at this
      rwa [if_pos ⟨hv, hc⟩]
    · rw [if_neg (fun hh => hc hh.2)] at this
      rwa [if_neg (fun hh => hc hh.2)]
  · rw [if_neg hv, if_neg (by omega)] at this
    rwa [if_neg (fun hh => hv hh.1)]

set_option maxRecDepth 100000 in
set_option maxHeartbeats 1600000 in
theorem next_any : ∀ (n : Nat) (f : FT) (cs : List Value) (a : Int) (w : World), -1 ≤ a → FLies w.heap.size w n f cs →
    Calls Try.prog 35 #[.agg cs.toArray, .int .i64 a] w fun e w' => ∃ r : Int, e = .returned (.int .i64 r) ∧ IsNx a (vsF n f) r ∧ Below w.heap.size w w'
  | 0, _, _, _, _, _, h => h.elim
  | n + 1, f, cs, a, w, ha, h => by
    have IH := next_any n
    obtain ⟨ta, tcap, ka, kcap, rfl, hlt, ht4, hk4, hks⟩ := h
    have B0 := Lib.hid (box_start w f.kind f.c ta ka f.t.length tcap f.ks.length kcap)
    have HL := Lib.hid hlt
    have HI := Lib.hid IH
    have HK := Lib.hid hks
    have HTS := Lib.hid (tsTo_succ f.t)
    have HVS := Lib.hid (vsTo_succ n f.ks)
    have HEQ := Lib.hid (vsF_eq n f)
    have HADD := Lib.hid (fun (l : List Int) (b v : Int) (h : IsNx a l b) => nx_add (v := v) ha h)
    have HAPP := Lib.hid (fun (l l' : List Int) (b u : Int) (h : IsNx a l b) (k : IsNx a l' u) => nx_app ha h k)
    clear IH hks hlt
    generalize f.kind = fk at B0
    generalize f.c = fc at B0
    generalize htl : f.t.length = ft at B0 HL HTS HEQ ht4
    generalize hl : f.ks.length = len at B0 HK hk4 HVS HEQ
    have HTL := Lib.hid htl
    have S0 : Hid (IsNx a (tsTo f.t 0) (-1)) := nx_nil a
    clear hl htl
    go_enter Try.func35, Try.ntmps35
    go_wp2_with fail
    go_loopw [5, 6] (fun s i wr => ∃ (k : Nat) (r : Int), k ≤ ft ∧ i = .int .i64 k ∧ s = .int .i64 r ∧ Hid (IsNx a (tsTo f.t k) r) ∧ Hid (Box w wr w.heap.size fk fc ta ft tcap ka len kcap)) (fun _ i _ => ft - (intOf i).toNat)
    case atStart => exact ⟨0, -1, Nat.zero_le _, rfl, rfl, S0, B0⟩
    case round =>
      obtain ⟨k, r, hk, rfl, rfl, hok, hbx⟩ := hrel
      obtain ⟨bz, _, _, q2, q3, hb⟩ := hbx.out
      by_cases hlt : k < ft
      · obtain ⟨b, off, rfl, hblt, c1, c2⟩ := (HL.out.below hb) k (by rw [HTL.out]; exact hlt)
        have hst := HADD.out _ _ (f.t.getD k (0, 0)).1 hok.out
        rw [← HTS.out k hlt] at hst
        generalize (f.t.getD k (0, 0)).1 = v at c1 hst
        clear hok
        by_cases h1 : a < v
        · by_cases h2 : r < 0
          · rw [if_pos ⟨h1, .inl h2⟩] at hst
            have HST := Lib.hid hst
            clear hst
            go_wp2_with fail
            go_roundw
            case rel => exact ⟨k + 1, v, by omega, by go_num, rfl, HST, hbx⟩
            case measure => simp [intOf]; omega
          · by_cases h3 : v < r
            · rw [if_pos ⟨h1, .inr h3⟩] at hst
              have HST := Lib.hid hst
              clear hst
              go_wp2_with fail
              go_roundw
              case rel => exact ⟨k + 1, v, by omega, by go_num, rfl, HST, hbx⟩
              case measure => simp [intOf]; omega
            · rw [if_neg (by omega)] at hst
              have HST := Lib.hid hst
              clear hst
              go_wp2_with fail
              go_roundw
              case rel => exact ⟨k + 1, r, by omega, by go_num, rfl, HST, hbx⟩
              case measure => simp [intOf]; omega
        · rw [if_neg (fun hh => h1 hh.1)] at hst
          have HST := Lib.hid hst
          clear hst
          go_wp2_with fail
          go_roundw
          case rel => exact ⟨k + 1, r, by omega, by go_num, rfl, HST, hbx⟩
          case measure => simp [intOf]; omega
      · have hk2 : k = ft := by omega
        subst hk2
        have S1 : Hid (IsNx a (tsTo f.t k ++ vsTo n f.ks 0) r) := by
          show IsNx _ _ _
          rw [show vsTo n f.ks 0 = [] from rfl, List.append_nil]; exact hok.out
        generalize tsTo f.t k = L at S1 HEQ
        clear hok
        go_wp2_with fail
        go_loopw [5, 8] (fun s i wr => ∃ (j : Nat) (r : Int), j ≤ len ∧ i = .int .i64 j ∧ s = .int .i64 r ∧ Hid (IsNx a (L ++ vsTo n f.ks j) r) ∧ Hid (Box w wr w.heap.size fk fc ta k tcap ka len kcap)) (fun _ i _ => len - (intOf i).toNat)
        case atStart => exact ⟨0, r, Nat.zero_le _, rfl, rfl, S1, hbx⟩
        case round =>
          clear q2 q3 hb bz hbx S1
          obtain ⟨j, r, hj, rfl, rfl, hok, hbx⟩ := hrel
          obtain ⟨bz, _, _, q2, q3, hb⟩ := hbx.out
          by_cases hlt : j < len
          · obtain ⟨b, off, c0, c1, c2, c3, rfl, hblt, g0, g1, g2, g3, hf⟩ := HK.out j hlt
            rw [← hb.cell (p := ⟨b, _, none⟩) hblt] at g0 g1 g2 g3
            obtain ⟨ck, cc, cta, ctn, ctcap, cka, ckn, ckcap, rfl, rfl, rfl, rfl⟩ := hf.form
            have hih := HI.out (f.ks.getD j default) _ a _ ha ((hf.below hb).mono hb.size)
            have hvs := HVS.out j hlt
            clear hf
            go_wp2_with fail
            refine hih.mono ?_
            rintro e w1 ⟨u, rfl, hu, hb1⟩
            have HB1 := Lib.hid (hbx.out.below hb1 bz)
            have hst := HAPP.out _ _ _ _ hok.out hu
            rw [List.append_assoc, ← hvs] at hst
            clear g0 g1 g2 g3 hih hb1 hb hbx q2 q3 hu hok hvs
            by_cases h1 : 0 ≤ u
            · by_cases h2 : r < 0
              · rw [if_pos ⟨h1, .inl h2⟩] at hst
                have HST := Lib.hid hst
                clear hst
                go_wp2_with fail
                go_roundw
                case rel => exact ⟨j + 1, u, by omega, by go_num, rfl, HST, HB1⟩
                case measure => simp [intOf]; omega
              · by_cases h3 : u < r
                · rw [if_pos ⟨h1, .inr h3⟩] at hst
                  have HST := Lib.hid hst
                  clear hst
                  go_wp2_with fail
                  go_roundw
                  case rel => exact ⟨j + 1, u, by omega, by go_num, rfl, HST, HB1⟩
                  case measure => simp [intOf]; omega
                · rw [if_neg (by omega)] at hst
                  have HST := Lib.hid hst
                  clear hst
                  go_wp2_with fail
                  go_roundw
                  case rel => exact ⟨j + 1, r, by omega, by go_num, rfl, HST, HB1⟩
                  case measure => simp [intOf]; omega
            · rw [if_neg (fun hh => h1 hh.1)] at hst
              have HST := Lib.hid hst
              clear hst
              go_wp2_with fail
              go_roundw
              case rel => exact ⟨j + 1, r, by omega, by go_num, rfl, HST, HB1⟩
              case measure => simp [intOf]; omega
          · have hj2 : j = len := by omega
            subst hj2
            go_wp2_with fail
            go_ret
            exact ⟨r, rfl, by rw [HEQ.out]; exact hok.out, hb⟩
end Go.Proofs.Ytinineipfleoiaa
