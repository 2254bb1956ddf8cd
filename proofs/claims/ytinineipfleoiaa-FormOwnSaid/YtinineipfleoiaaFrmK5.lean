/- The walk of FormOwn. -/
import Derived.Test.YtinineipfleoiaaFrmK5a
namespace Go.Proofs.Ytinineipfleoiaa
open Go.RowKit

theorem fvN_one (zs : List Int) (n : Nat) (f : FT) : ∃ (o : Bool) (k : Int), fvN zs n f = (o, k) := ⟨_, _, rfl⟩

theorem formOwn_any (hup : UpSaid2) (n : Nat) (f : FT) (cs : List Value) (a2 : Option Addr) (n2 cap2 : Nat) (zs : List Int) (z x : Int) (w : World) (h : FLies w.heap.size w n f cs) (hn2 : zs.length = n2) (hm2 : n2 * 8 ≤ 140737488351232) (hz : Nums w.heap.size w a2 zs) :
    Calls Try.prog 7 #[.agg cs.toArray, .slice a2 n2 cap2, .int .i64 z, .int .i64 x] w fun e w' => e = .returned (.bool true) ∧ Below w.heap.size w w' := by
  have FL := fun W (hb : Below w.heap.size w W) => (h.below hb).mono hb.size
  cases n with
  | zero => exact h.elim
  | succ n =>
    obtain ⟨ta, tcap, ka, kcap, rfl, _⟩ := h
    have hsm := Lib.hid (fun W hb => small_any (n + 1) f _ W (FL W hb))
    have hva := Lib.hid (fun W (hb : Below w.heap.size w W) => fvalue_any (n + 1) f _ a2 n2 cap2 zs W (FL W hb) hn2 ((hz.below hb).mono hb.size))
    have hha := Lib.hid (fun W (hb : Below w.heap.size w W) => has_any (n + 1) f _ z W (FL W hb))
    obtain ⟨o, k, hk⟩ := fvN_one zs (n + 1) f
    rw [hk] at hva
    simp only [codeV] at hva
    by_cases h0 : k = 0
    · subst h0
      simp only [if_true] at hva
      by_cases hlo : z < 0
      · exact own_low hup f.kind f.c ta ka f.t.length tcap f.ks.length kcap a2 n2 cap2 z x w o hsm hva hlo
      · by_cases hhi : (n2 : Int) ≤ z
        · exact own_high hup f.kind f.c ta ka f.t.length tcap f.ks.length kcap a2 n2 cap2 z x w o hsm hva ⟨by omega, hhi⟩ (by omega)
        · obtain ⟨A, rfl⟩ := Int.eq_ofNat_of_zero_le (show 0 ≤ z by omega)
          cases hh : hasF (A : Int) (n + 1) f with
          | true =>
            rw [hh] at hha
            exact own_has hup f.kind f.c ta ka f.t.length tcap f.ks.length kcap a2 n2 cap2 A x w o hsm hva hha ⟨by omega, by omega⟩ (by omega)
          | false =>
            rw [hh] at hha
            obtain ⟨b, off, rfl, _, _⟩ := hz 0 (by omega)
            have hv2 := Lib.hid (fun W a cap (hb : Below w.heap.size w W) (hnu : Nums W.heap.size W a (zs.set A x)) => fvalue_any (n + 1) f _ a n2 cap (zs.set A x) W (FL W hb) (by rw [List.length_set, hn2]) hnu)
            rw [fvN_set zs A x (n + 1) f hh, hk] at hv2
            simp only [codeV, if_true] at hv2
            exact own_no hup f.kind f.c ta ka f.t.length tcap f.ks.length kcap ⟨b, off, none⟩ n2 cap2 A x w zs o hsm hva hha hv2 (by omega) hn2 hm2 hz
    · rw [if_neg h0] at hva
      exact own_bad hup f.kind f.c ta ka f.t.length tcap f.ks.length kcap a2 n2 cap2 z x w o k hsm hva
end Go.Proofs.Ytinineipfleoiaa
