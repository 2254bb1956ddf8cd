/- Each number of a list once, in order. -/
import Derived.Test.YtinineipfleoiaaFrmVb
import Derived.Test.YtinineipfleoiaaFrmVn
namespace Go.Proofs.Ytinineipfleoiaa
open Go.RowKit

/-- Strictly ascending, and of the same numbers. -/
def UOf (L U : List Int) : Prop := U.Pairwise (· < ·) ∧ ∀ x, x ∈ U ↔ x ∈ L

theorem srt_pair (L : List Int) : (srt L).Pairwise (· ≤ ·) := by
  have h := List.pairwise_mergeSort (le := fun x y : Int => decide (x ≤ y)) (fun a b c h1 h2 => by simp at h1 h2 ⊢; omega) (fun a b => by simp; omega) L
  exact h.imp (fun {a b} h => by simpa using h)
theorem srt_mem (L : List Int) (x : Int) : x ∈ srt L ↔ x ∈ L := (List.mergeSort_perm L _).mem_iff
theorem arr_le (l : List Int) (h : l.Pairwise (· ≤ ·)) (j k : Nat) (hj : j ≤ k) (hk : k < l.toArray.size) : l.toArray[j]! ≤ l.toArray[k]! := by
  have hk' : k < l.length := by simpa using hk
  rw [getElem!_pos l.toArray j (by simp; omega), getElem!_pos l.toArray k hk]
  simp only [List.getElem_toArray]
  by_cases e : j = k
  · subst e; exact Int.le_refl _
  · exact List.pairwise_iff_getElem.1 h j k (by omega) hk' (by omega)
theorem cu_inv (d : Array Int) (hs : ∀ j k, j ≤ k → k < d.size → d[j]! ≤ d[k]!) : ∀ m, m ≤ d.size → (Lib.compactUpTo d m).Pairwise (· < ·) ∧ ∀ x, x ∈ Lib.compactUpTo d m ↔ ∃ j, j < m ∧ d[j]! = x
  | 0, _ => ⟨by simp [Lib.compactUpTo], fun x => by simp [Lib.compactUpTo]⟩
  | m + 1, hm => by
    obtain ⟨h1, h2⟩ := cu_inv d hs m (by omega)
    rw [Lib.compactUpTo_succ]
    by_cases hk : Lib.keeps d m = true
    · rw [if_pos hk]
      have hk' : m = 0 ∨ d[m]! ≠ d[m - 1]! := by simpa [Lib.keeps] using hk
      refine ⟨List.pairwise_append.2 ⟨h1, List.pairwise_singleton _ _, fun x hx y hy => ?_⟩, fun x => ?_⟩
      · obtain rfl := List.mem_singleton.1 hy
        obtain ⟨j, hj, rfl⟩ := (h2 x).1 hx
        have a1 := hs j (m - 1) (by omega) (by omega)
        have a2 := hs (m - 1) m (by omega) (by omega)
        rcases hk' with e | e
        · omega
        · omega
      · rw [List.mem_append, List.mem_singleton, h2]
        constructor
        · rintro (⟨j, hj, rfl⟩ | rfl)
          · exact ⟨j, by omega, rfl⟩
          · exact ⟨m, by omega, rfl⟩
        · rintro ⟨j, hj, rfl⟩
          by_cases e : j = m
          · subst e; exact .inr rfl
          · exact .inl ⟨j, by omega, rfl⟩
    · have hk' : ¬ (m = 0 ∨ d[m]! ≠ d[m - 1]!) := by simpa [Lib.keeps] using hk
      rw [if_neg hk, List.append_nil]
      refine ⟨h1, fun x => ?_⟩
      rw [h2]
      constructor
      · rintro ⟨j, hj, rfl⟩
        exact ⟨j, by omega, rfl⟩
      · rintro ⟨j, hj, rfl⟩
        by_cases e : j = m
        · subst e
          have h0 : j ≠ 0 := fun e => hk' (.inl e)
          have he : d[j]! = d[j - 1]! := by
            by_cases he : d[j]! = d[j - 1]!
            · exact he
            · exact absurd (.inr he) hk'
          exact ⟨j - 1, by omega, he.symm⟩
        · exact ⟨j, by omega, rfl⟩
theorem compact_uof (L : List Int) : UOf L (Lib.compact (srt L)) := by
  obtain ⟨h1, h2⟩ := cu_inv (srt L).toArray (arr_le _ (srt_pair L)) (srt L).length (by simp)
  refine ⟨h1, fun x => ?_⟩
  show x ∈ Lib.compactUpTo _ _ ↔ _
  rw [h2, ← srt_mem L x, List.mem_iff_getElem]
  constructor
  · rintro ⟨j, hj, rfl⟩
    refine ⟨j, hj, ?_⟩
    rw [getElem!_pos (srt L).toArray j (by simpa using hj)]
    simp
  · rintro ⟨j, hj, rfl⟩
    refine ⟨j, hj, ?_⟩
    rw [getElem!_pos (srt L).toArray j (by simpa using hj)]
    simp

theorem u_lt {L U : List Int} (h : UOf L U) {j k : Nat} (hj : j < k) (hk : k < U.length) : U.getD j (-1) < U.getD k (-1) := by
  rw [List.getD_eq_getElem?_getD, List.getD_eq_getElem?_getD, List.getElem?_eq_getElem (by omega), List.getElem?_eq_getElem hk]
  exact List.pairwise_iff_getElem.1 h.1 j k (by omega) hk hj
theorem u_mem {L U : List Int} (h : UOf L U) {k : Nat} (hk : k < U.length) : U.getD k (-1) ∈ L := by
  rw [List.getD_eq_getElem?_getD, List.getElem?_eq_getElem hk]
  exact (h.2 _).1 (List.getElem_mem hk)
theorem u_at {L U : List Int} (h : UOf L U) {x : Int} (hx : x ∈ L) : ∃ j, j < U.length ∧ U.getD j (-1) = x := by
  obtain ⟨j, hj, rfl⟩ := List.getElem_of_mem ((h.2 x).2 hx)
  exact ⟨j, hj, by rw [List.getD_eq_getElem?_getD, List.getElem?_eq_getElem hj]; rfl⟩
/-- The least above a number is the next one of the list. -/
theorem nx_getD {L U : List Int} (h : UOf L U) {a r : Int} (hr : IsNx a L r) (k : Nat) (h1 : ∀ j, j < k → j < U.length → U.getD j (-1) ≤ a) (h2 : k < U.length → a < U.getD k (-1)) : r = U.getD k (-1) := by
  by_cases hk : k < U.length
  · rcases hr with ⟨_, hn⟩ | ⟨hm, ha, hle⟩
    · exact absurd (h2 hk) (hn _ (u_mem h hk))
    · have := hle _ (u_mem h hk) (h2 hk)
      obtain ⟨j, hj, rfl⟩ := u_at h hm
      by_cases e : j < k
      · have := h1 j e hj; omega
      · by_cases e2 : j = k
        · rw [e2]
        · have := u_lt h (show k < j by omega) hj; omega
  · have he : U.getD k (-1) = -1 := by rw [List.getD_eq_getElem?_getD, List.getElem?_eq_none (by omega)]; rfl
    rw [he]
    rcases hr with ⟨e, _⟩ | ⟨hm, ha, _⟩
    · exact e
    · obtain ⟨j, hj, rfl⟩ := u_at h hm
      have := h1 j (by omega) hj; omega
theorem nx_first {L U : List Int} (h : UOf L U) (h0 : ∀ x ∈ L, 0 ≤ x) {r : Int} (hr : IsNx (-1) L r) : r = U.getD 0 (-1) :=
  nx_getD h hr 0 (fun j hj => by omega) (fun hk => by have := h0 _ (u_mem h hk); omega)
theorem nx_step {L U : List Int} (h : UOf L U) {k : Nat} (hk : k < U.length) {r : Int} (hr : IsNx (U.getD k (-1)) L r) : r = U.getD (k + 1) (-1) :=
  nx_getD h hr (k + 1) (fun j hj hjl => by
    by_cases e : j = k
    · rw [e]; exact Int.le_refl _
    · have := u_lt h (show j < k by omega) hk; omega) (fun hk2 => u_lt h (Nat.lt_succ_self k) hk2)

theorem own_vars {f : FT} (h : ownF f = true) : ∀ i, i < f.t.length → 0 ≤ (f.t.getD i (0, 0)).1 := by
  intro i hi
  by_cases hk : f.kind = 2 ∨ f.kind = 3
  · unfold ownF ownV at h
    rw [if_neg (by omega), if_pos hk] at h
    simp at h
    exact (okAt_in ((snd_iff.1 h.1).2.2 i hi)).2.2.1
  · unfold ownF ownV at h
    by_cases h0 : f.kind = 0 ∨ f.kind = 1
    · rw [if_pos h0] at h
      simp at h
      rw [h.1.2] at hi; simp at hi
    · rw [if_neg h0, if_neg hk] at h
      by_cases h4 : f.kind = 4
      · rw [if_pos h4] at h
        simp at h
        rw [h.1.2] at hi; simp at hi
      · rw [if_neg h4] at h
        split at h
        · simp at h
          rw [h.2] at hi; simp at hi
        · cases h
theorem vsF_nonneg : ∀ (n : Nat) (f : FT), sndF n f = true → ∀ x ∈ vsF n f, 0 ≤ x
  | 0, _, h => by cases h
  | n + 1, f, h => by
    obtain ⟨hown, hk⟩ := snd_parts h
    intro x hx
    have hx' : x ∈ f.t.map (·.1) ++ (f.ks.map (vsF n)).flatten := hx
    rcases List.mem_append.1 hx' with hx | hx
    · obtain ⟨m, hm, rfl⟩ := List.mem_map.1 hx
      obtain ⟨i, hi, rfl⟩ := List.getElem_of_mem hm
      have := own_vars hown i hi
      rwa [List.getD_eq_getElem?_getD, List.getElem?_eq_getElem hi] at this
    · obtain ⟨l, hl, hxl⟩ := List.mem_flatten.1 hx
      obtain ⟨g, hg, rfl⟩ := List.mem_map.1 hl
      obtain ⟨i, hi, rfl⟩ := List.getElem_of_mem hg
      have := hk i hi
      rw [List.getD_eq_getElem?_getD, List.getElem?_eq_getElem hi] at this
      exact vsF_nonneg n _ this x hxl
theorem take_getD (U : List Int) (k : Nat) (h : k < U.length) : U.take (k + 1) = U.take k ++ [U.getD k (-1)] := by
  rw [List.take_succ_eq_append_getElem h, List.getD_eq_getElem?_getD, List.getElem?_eq_getElem h, Option.getD_some]

theorem VSt.calls {B : Nat} {w0 W w' : World} {R : Option Nat} {l : List Int} {v : Value} (h : VSt B w0 R l v W) (hb : Below W.heap.size W w') : VSt B w0 R l v w' :=
  h.trans ⟨World.ownsRow.kept h.row ⟨hb.os, hb.tape, hb.output, hb.size, fun k hk _ => hb.block k hk⟩ (row := none) (by cases v.ownBlock <;> simp), ⟨hb.os, hb.tape, hb.output, hb.size, fun k hk _ => hb.block k hk⟩, fun _ hg => .inl hg⟩
theorem IRow.calls {B : Nat} {w w' : World} {l : List Int} {v : Value} (h : IRow B l v w) (hb : Below w.heap.size w w') : IRow B l v w' := ((VSt.start h).calls hb).row

def lenV : Value → Nat
  | .slice _ n _ => n
  | _ => 0

set_option maxHeartbeats 1600000 in
theorem rvars_any (n : Nat) (f : FT) (cs : List Value) (w : World) (h : FLies w.heap.size w n f cs) (hs : sndF n f = true) (hlen : (vsF n f).length ≤ 262144) :
    Calls Try.prog 20 #[.agg cs.toArray] w fun e w' => ∃ v', e = .returned v' ∧ IRow w.heap.size (Lib.compact (srt (vsF n f))) v' w' ∧ Below w.heap.size w w' := by
  have FL := fun W (hb : Below w.heap.size w W) => (h.below hb).mono hb.size
  cases n with
  | zero => exact h.elim
  | succ n =>
    obtain ⟨i0, hi, hz0, hz1, hz2⟩ := parts_of Try.infoInt
    obtain ⟨ta, tcap, ka, kcap, rfl, _⟩ := h
    have hnx := Lib.hid (fun a (ha : -1 ≤ a) W hb => next_any (n + 1) f _ a W ha (FL W hb))
    have HU := Lib.hid (compact_uof (vsF (n + 1) f))
    have H0 := Lib.hid (vsF_nonneg (n + 1) f hs)
    have hul : (Lib.compact (srt (vsF (n + 1) f))).length ≤ 262144 := by
      have := Lib.compact_length_le (srt (vsF (n + 1) f))
      rw [srt_len] at this; omega
    have S0 : Hid (VSt w.heap.size (w.alloc (.cells #[.int .i64 f.kind, .int .i64 f.c, .slice ta f.t.length tcap, .slice ka f.ks.length kcap] 27)) none [] (.slice none 0 0) (w.alloc (.cells #[.int .i64 f.kind, .int .i64 f.c, .slice ta f.t.length tcap, .slice ka f.ks.length kcap] 27))) := VSt.start (IRow.nil _ _)
    have T0 := Lib.hid (box_start w f.kind f.c ta ka f.t.length tcap f.ks.length kcap)
    clear FL hs hlen
    generalize Lib.compact (srt (vsF (n + 1) f)) = U at HU hul
    generalize vsF (n + 1) f = L at hnx HU H0
    generalize f.kind = fk at S0 T0 hnx
    generalize f.c = fc at S0 T0 hnx
    generalize f.t.length = ft at S0 T0 hnx
    generalize f.ks.length = fl at S0 T0 hnx
    go_enter Try.func20, Try.ntmps20
    go_wp2_with fail
    refine (hnx.out (-1) (by omega) _ T0.out.bel).mono ?_
    rintro e w1 ⟨r, rfl, hr, hb1⟩
    have he := nx_first HU.out H0.out hr
    have S1 := Lib.hid (S0.out.calls hb1)
    have HT := T0
    clear hr hb1 S0
    generalize hw0 : w.alloc (.cells #[.int .i64 fk, .int .i64 fc, .slice ta ft tcap, .slice ka fl kcap] 27) = w0 at S1 T0
    clear HT hw0
    have hz : w.heap.size < w0.heap.size := T0.out.lt
    subst he
    go_wp2_with fail
    go_loopw [3, 4] (fun s i wr => ∃ (k : Nat) (a : Option Addr) (cap : Nat), k ≤ U.length ∧ i = .int .i64 (U.getD k (-1)) ∧ s = .slice a k cap ∧ Hid (VSt w.heap.size w0 none (U.take k) (.slice a k cap) wr)) (fun s _ _ => U.length - lenV s)
    case atStart => exact ⟨0, none, 0, Nat.zero_le _, rfl, rfl, S1⟩
    case round =>
      obtain ⟨k, a, cap, hk, rfl, rfl, hst⟩ := hrel
      have hbw : Below w.heap.size w wr := T0.out.bel.trans (hst.out.below (by omega) (fun g hg => by cases hg))
      have T1 : Hid (Box w wr w.heap.size fk fc ta ft tcap ka fl kcap) := by
        have hq : ∀ o x, w0.cell? ⟨w.heap.size, o, none⟩ = some x → wr.cell? ⟨w.heap.size, o, none⟩ = some x := fun o x hx => hst.out.cell hx (fun e => by cases e)
        exact ⟨Nat.lt_of_lt_of_le hz hst.out.size, hq _ _ T0.out.c0, hq _ _ T0.out.c1, hq _ _ T0.out.c2, hq _ _ T0.out.c3, hbw⟩
      by_cases hlt : k < U.length
      · have hpos : 0 ≤ U.getD k (-1) := H0.out _ (u_mem HU.out hlt)
        have hstep := Lib.hid (fun r hr => nx_step HU.out hlt (r := r) hr)
        have hta := Lib.hid (take_getD U k hlt)
        have hkl : (U.take k).length = k := by rw [List.length_take]; omega
        generalize U.getD k (-1) = x at hpos hstep hta
        have HRW : Hid ((wr.alloc (.cells #[.int .i64 x] 3)).ownsRow w.heap.size 3 1 (.slice a k cap) k (ints (U.take k))) := by
          have := hst.out.row.alloc (.cells #[.int .i64 x] 3)
          rw [hkl] at this
          exact this
        go_wp2_with (at_builtin; refine wpList_append_own_at _ rfl _ _ 38 rfl w.heap.size 3 i0 _ 1 8 Try.underlying38 hi hz0 hz1 hz2 rfl (by decide) (.slice a k cap) k (ints (U.take k)) rfl HRW.out ⟨wr.heap.size, 0, none⟩ 1 1 [.int .i64 x] rfl rfl ?c2 ?c3 ?c4 ?c5 ?c6 ?_)
        case c2 => exact one_at _ _ _ _ rfl
        case c3 => exact one_int x
        case c4 => unfold maxLen; omega
        case c5 => omega
        case c6 => have := hbw.size; simp; omega
        intro v' w2 hown' hgrow _ hat
        have S2 : Hid (VSt w.heap.size w0 none (U.take (k + 1)) v' w2) := by
          have := (hst.out.alloc (.cells #[.int .i64 x] 3)).append (x := x) (by rw [hkl]; exact hown') hgrow (by simpa using hat)
          rw [hta.out]
          exact this
        have hbw2 : Below w.heap.size w w2 := T0.out.bel.trans (S2.out.below (by omega) (fun g hg => by cases hg))
        have T2 : Hid (Box w w2 w.heap.size fk fc ta ft tcap ka fl kcap) := by
          have hq : ∀ o y, w0.cell? ⟨w.heap.size, o, none⟩ = some y → w2.cell? ⟨w.heap.size, o, none⟩ = some y := fun o y hx => S2.out.cell hx (fun e => by cases e)
          exact ⟨Nat.lt_of_lt_of_le hz S2.out.size, hq _ _ T0.out.c0, hq _ _ T0.out.c1, hq _ _ T0.out.c2, hq _ _ T0.out.c3, hbw2⟩
        have hform : ∃ a' cap', v' = .slice a' (k + 1) cap' := by
          have := S2.out.row.nums
          rw [hta.out, List.length_append, hkl] at this
          obtain ⟨a', cap', e, _⟩ := this
          exact ⟨a', cap', e⟩
        obtain ⟨a', cap', rfl⟩ := hform
        clear hown' hgrow hat HRW hst hbw T1 hta
        obtain ⟨l2, p0, p1, p2, p3, _⟩ := T2.out
        go_wp2_with fail
        refine (hnx.out x (by omega) _ T2.out.bel).mono ?_
        rintro e w3 ⟨r, rfl, hr, hb3⟩
        have he := hstep.out r hr
        have S3 := Lib.hid (S2.out.calls hb3)
        clear hr hb3 S2 T2 l2 p0 p1 p2 p3
        subst he
        go_wp2_with fail
        go_roundw
        case rel => exact ⟨k + 1, a', cap', by omega, rfl, rfl, S3⟩
        case measure => simp [lenV]; omega
      · have he : U.getD k (-1) = -1 := by rw [List.getD_eq_getElem?_getD, List.getElem?_eq_none (by omega)]; rfl
        rw [he]
        go_wp2_with fail
        go_ret
        refine ⟨_, rfl, ?_, hbw⟩
        have := hst.out.row
        rw [List.take_of_length_le (by omega)] at this
        exact this
end Go.Proofs.Ytinineipfleoiaa
