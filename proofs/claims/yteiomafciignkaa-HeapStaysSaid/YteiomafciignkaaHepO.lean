/- HeapChecks, HeapDoes: their walks. -/
import Derived.Test.YteiomafciignkaaHepN
import Derived.Test.YteiomafciignkaaHepT
import Derived.LaidEql
set_option linter.unusedVariables false
set_option linter.unusedSimpArgs false
namespace Go.Proofs.Yteiomafciignkaa
set_option maxRecDepth 100000
open Go.RowKit

theorem Try.eqIface (t : TypeId) (v : Value) (w : World) : (binOp .eql 25 (.iface t v) .nilIface).run Try.prog w = .ok (.bool false) w := by simp [go_sem]
theorem Try.eqNil (w : World) : (binOp .eql 25 .nilIface .nilIface).run Try.prog w = .ok (.bool true) w := by simp [go_sem]
theorem Try.neIface (t : TypeId) (v : Value) (w : World) : (binOp .neq 25 (.iface t v) .nilIface).run Try.prog w = .ok (.bool true) w := by simp [go_sem]
theorem Try.neNil (w : World) : (binOp .neq 25 .nilIface .nilIface).run Try.prog w = .ok (.bool false) w := by simp [go_sem]
section
variable {P : Program} (w : World)
theorem run_equalIn_iface_int (d : Nat) {ti tn : TypeId} {ms : Array (String × TypeId)} {i : TypeInfo} {k : IntKind} (a b : Int)
    (hi : P.underlying ti = some (.interface ms)) (hn : P.underlying tn = some (.int k)) (hinfo : P.info? tn = some i) (hcomp : i.comparable = true) :
    (Op.equalIn (d + 2) ti (.iface tn (.int k a)) (.iface tn (.int k b))).run P w = .ok (a == b) w := by
  simp [Op.equalIn, run_underlying hi, run_underlying hn, typeInfo, hinfo, hcomp]
theorem run_eql_iface_int {ti tn : TypeId} {ms : Array (String × TypeId)} {i : TypeInfo} {k : IntKind} (a b : Int)
    (hi : P.underlying ti = some (.interface ms)) (hn : P.underlying tn = some (.int k)) (hinfo : P.info? tn = some i) (hcomp : i.comparable = true) :
    (binOp .eql ti (.iface tn (.int k a)) (.iface tn (.int k b))).run P w = .ok (.bool (a == b)) w := by
  simp only [binOp]
  simp [Op.equal, Op.maxDepth, run_equalIn_iface_int w 9998 a b hi hn hinfo hcomp]
theorem run_neq_iface_int {ti tn : TypeId} {ms : Array (String × TypeId)} {i : TypeInfo} {k : IntKind} (a b : Int)
    (hi : P.underlying ti = some (.interface ms)) (hn : P.underlying tn = some (.int k)) (hinfo : P.info? tn = some i) (hcomp : i.comparable = true) :
    (binOp .neq ti (.iface tn (.int k a)) (.iface tn (.int k b))).run P w = .ok (.bool (!(a == b))) w := by
  simp only [binOp]
  simp [Op.equal, Op.maxDepth, run_equalIn_iface_int w 9998 a b hi hn hinfo hcomp]
end
theorem Try.eqCode (a b : Int) (w : World) : (binOp .eql 25 (.iface 28 (.int .i64 a)) (.iface 28 (.int .i64 b))).run Try.prog w = .ok (.bool (a == b)) w :=
  run_eql_iface_int (P := Try.prog) w a b Try.underlying25 Try.underlying28 (i := Try.t28) (by kernel_rfl) (by kernel_rfl)
theorem Try.neCode (a b : Int) (w : World) : (binOp .neq 25 (.iface 28 (.int .i64 a)) (.iface 28 (.int .i64 b))).run Try.prog w = .ok (.bool (!(a == b))) w :=
  run_neq_iface_int (P := Try.prog) w a b Try.underlying25 Try.underlying28 (i := Try.t28) (by kernel_rfl) (by kernel_rfl)
set_option maxHeartbeats 2000000 in
theorem heapChecks_any (ad : Option Addr) (n cap : Nat) (hs : List HC) (w : World) (h : CameH w ad n cap hs) :
    Calls Try.prog 3 #[.slice ad n cap] w fun e w' => e = .returned (.bool true) ∧ Below w.heap.size w w' := by
  have HUP := Lib.hid (up_said17 w)
  have hnm : n ≤ 9223372036854775807 := by have := h.hc; omega
  have HCK := Lib.hid (fun W (hb : Below w.heap.size w W) => check_any hs ad n cap W h.hn hnm (h.lies.up hb))
  have HRC := Lib.hid (fun W (hb : Below w.heap.size w W) => rcheck_any hs ad n cap W h.hn hnm (h.lies.up hb))
  have n1 := fun t v W => Try.eqIface t v W
  have n2 := fun W => Try.eqNil W
  have n3 := fun W => Try.eqCode 5 5 W
  clear h
  by_cases hbig : 2000 < n
  · have hbigi : (n : Int) > 2000 := by omega
    have hbigj : (2000 : Int) < (n : Int) := by omega
    go_enter Try.func3, Try.ntmps3
    go_wp2_with fail
    refine HUP.out.mono ?_
    rintro e w1 ⟨rfl, hb1⟩
    go_wp2_with fail
    go_ret
    exact ⟨rfl, hb1⟩
  · have hbigi : ¬ (n : Int) > 2000 := by omega
    have hbigj : ¬ (2000 : Int) < (n : Int) := by omega
    go_enter Try.func3, Try.ntmps3
    go_wp2_with fail
    refine HUP.out.mono ?_
    rintro e w1 ⟨rfl, hb1⟩
    have B1 := Lib.hid hb1
    clear hb1 HUP
    go_wp2_with fail
    refine (HCK.out _ B1.out).mono ?_
    rintro e w2 ⟨hc, hb2⟩
    have B2 := Lib.hid (B1.out.trans (hb2.mono B1.out.size))
    clear hb2 HCK
    rcases hc with ⟨hp, rfl⟩ | ⟨hp, rfl⟩
    · have HP := Lib.hid hp
      clear hp
      go_wp2_with fail
      refine (HRC.out _ B2.out).mono ?_
      rintro e w3 ⟨b, rfl, hb, hb3⟩
      obtain rfl : b = true := hb.2 HP.out
      have B3 := Lib.hid (B2.out.trans (hb3.mono B2.out.size))
      clear hb hb3 HRC
      go_wp2_with fail
      go_ret
      exact ⟨rfl, B3.out⟩
    · have HP := Lib.hid hp
      clear hp
      go_wp2_with fail
      refine (HRC.out _ B2.out).mono ?_
      rintro e w3 ⟨b, rfl, hb, hb3⟩
      obtain rfl : b = false := by
        cases b with
        | false => rfl
        | true => exact absurd (hb.1 rfl) HP.out
      have B3 := Lib.hid (B2.out.trans (hb3.mono B2.out.size))
      clear hb hb3 HRC
      go_wp2_with fail
      go_ret
      exact ⟨rfl, B3.out⟩
theorem stand_one {hs : List HC} (hst : Stand hs) {i j : Nat} {K : Key} (hi : i < hs.length) (hj : j < hs.length) (h1 : hkey (hs.getD i hc0) = K) (h2 : hkey (hs.getD j hc0) = K) : i = j := by
  rcases Nat.lt_trichotomy i j with h | h | h
  · have := hst.lt h hj; rw [h1, h2] at this; exact absurd this (kl_irrefl K)
  · exact h
  · have := hst.lt h hi; rw [h1, h2] at this; exact absurd this (kl_irrefl K)
theorem find_of {hs : List HC} (hst : Stand hs) {i : Nat} {K : Key} (hi : i < hs.length) (h : hkey (hs.getD i hc0) = K) : FindIs hs K i true :=
  ⟨Nat.le_of_lt hi, fun q hq => by have := hst.lt hq hi; rwa [h] at this, fun q hq hql hk => by
    rcases Nat.lt_or_ge i q with h1 | h1
    · have := hst.lt h1 hql; rw [h] at this; exact kl_asymm this hk
    · obtain rfl : q = i := by omega
      rw [h] at hk; exact kl_irrefl K hk, ⟨fun _ => ⟨hi, h⟩, fun _ => rfl⟩⟩
/-- What the three say together. -/
theorem three {hs : List HC} {K : Key} (hst : Stand hs) {x x2 : Int} {er er2 : Value} {ds : List HC} {b : Bool} (h1 : GetIs hs K x er) (h2 : DropIs hs K ds er2) (h3 : RGetIs hs K x2 b) :
    (b = true ∧ er = .nilIface ∧ er2 = .nilIface ∧ x = x2 ∧ ds = dropL hs K) ∨ (b = false ∧ er = .iface 28 (.int .i64 15) ∧ er2 = .iface 28 (.int .i64 15) ∧ x = x2 ∧ ds = []) := by
  cases h1 with
  | yes i hi hk =>
    left
    cases h3 with
    | no hn => exact absurd hk (hn i hi)
    | yes j hj hk2 _ =>
      obtain rfl := stand_one hst hi hj hk hk2
      cases h2 with
      | no hn => exact absurd hk (hn i hi)
      | yes k hk3 hk4 =>
        obtain rfl := stand_one hst hi hk3 hk hk4
        refine ⟨rfl, rfl, rfl, rfl, ?_⟩
        rw [dropL_is hst (find_of hst hi hk)]
        simp
  | no hn =>
    right
    cases h3 with
    | yes j hj hk2 _ => exact absurd hk2 (hn j hj)
    | no _ =>
      cases h2 with
      | yes k hk3 hk4 => exact absurd hk4 (hn k hk3)
      | no _ => exact ⟨rfl, rfl, rfl, rfl, rfl⟩
theorem low_of {hs : List HC} {m : Nat} (hst : Stand hs) (hm : hs.length = m + 1) (hw : ∀ c, c ∈ hs → in64 c.a ∧ in64 c.v) (hl : (hs.getD m hc0).a ≠ 9223372036854775807) : ∀ i, i < hs.length → -9223372036854775808 ≤ (hs.getD i hc0).a ∧ (hs.getD i hc0).a ≤ 9223372036854775806 := fun i hi => by
  have h1 := (hw _ (getD_memH hi)).1
  have h2 := (hw _ (getD_memH (l := hs) (i := m) (by omega))).1
  unfold in64 at h1 h2
  refine ⟨h1.1, ?_⟩
  by_cases e : i = m
  · subst e; omega
  · have := hst.lt (show i < m by omega) (by omega)
    rw [kl_iff] at this
    simp only [hkey] at this
    omega
end Go.Proofs.Yteiomafciignkaa
