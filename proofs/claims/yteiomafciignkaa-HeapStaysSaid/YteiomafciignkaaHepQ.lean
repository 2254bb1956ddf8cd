/- HeapKeeps: its pure part. -/
import Derived.Test.YteiomafciignkaaHepP
set_option linter.unusedVariables false
set_option linter.unusedSimpArgs false
namespace Go.Proofs.Yteiomafciignkaa
set_option maxRecDepth 100000
open Go.RowKit

theorem stand_iff {hs : List HC} : Stand hs ↔ hs.Pairwise fun x y => kl (hkey x) (hkey y) = true := by
  constructor
  · intro h
    rw [List.pairwise_iff_getElem]
    intro i j hi hj hij
    have := h.lt hij hj
    simpa [List.getD_eq_getElem?_getD, hi, hj] using this
  · intro h i hi
    rw [List.pairwise_iff_getElem] at h
    have := h i (i + 1) (by omega) hi (by omega)
    simpa [List.getD_eq_getElem?_getD, hi, show i < hs.length by omega] using this
theorem stand_drop {hs : List HC} (h : Stand hs) (K : Key) : Stand (dropL hs K) := stand_iff.2 ((stand_iff.1 h).sublist List.filter_sublist)
theorem stand_set {hs : List HC} {c : HC} {i : Nat} {b : Bool} (hst : Stand hs) (h : FindIs hs (hkey c) i b) : Stand (setL hs c i b) := by
  have hp := stand_iff.1 hst
  refine stand_iff.2 ?_
  unfold setL
  rw [List.append_assoc, List.pairwise_append]
  refine ⟨hp.sublist (List.take_sublist _ _), ?_, fun x hx y hy => ?_⟩
  · rw [List.singleton_append, List.pairwise_cons]
    refine ⟨fun y hy => ?_, hp.sublist (List.drop_sublist _ _)⟩
    obtain ⟨j, h1, h2, rfl⟩ := getD_mem_drop hy
    exact h.above hst j h1 h2
  · obtain ⟨j, h1, h2, rfl⟩ := getD_mem_take hx
    rw [List.singleton_append, List.mem_cons] at hy
    rcases hy with rfl | hy
    · exact h.lo j h1
    · obtain ⟨q, h3, h4, rfl⟩ := getD_mem_drop hy
      exact kl_trans (h.lo j h1) (h.above hst q h3 h4)
theorem getD_of_memH {hs : List HC} {c : HC} (h : c ∈ hs) : ∃ i, i < hs.length ∧ hs.getD i hc0 = c := by
  obtain ⟨i, hi, rfl⟩ := List.getElem_of_mem h
  exact ⟨i, hi, by simp [List.getD_eq_getElem?_getD, hi]⟩
theorem stand_mem {hs : List HC} (hst : Stand hs) {x y : HC} (hx : x ∈ hs) (hy : y ∈ hs) (h : hkey x = hkey y) : x = y := by
  obtain ⟨i, hi, rfl⟩ := getD_of_memH hx
  obtain ⟨j, hj, rfl⟩ := getD_of_memH hy
  rw [stand_one hst hi hj h rfl]
def E15 : Value := .iface 28 (.int .i64 15)
theorem getIs_mem {hs : List HC} {K : Key} {x : Int} {er : Value} (h : GetIs hs K x er) : (∃ c, c ∈ hs ∧ hkey c = K ∧ x = c.v ∧ er = .nilIface) ∨ ((∀ c, c ∈ hs → hkey c ≠ K) ∧ x = 0 ∧ er = E15) := by
  cases h with
  | yes i hi hk => exact .inl ⟨_, getD_memH hi, hk, rfl, rfl⟩
  | no hn => exact .inr ⟨fun c hc => by obtain ⟨i, hi, rfl⟩ := getD_of_memH hc; exact hn i hi, rfl, rfl⟩
theorem mem_set {hs : List HC} {c : HC} {i : Nat} {b : Bool} (h : FindIs hs (hkey c) i b) : c ∈ setL hs c i b := by simp [setL]
theorem mem_set_other {hs : List HC} {c x : HC} {i : Nat} {b : Bool} (h : FindIs hs (hkey c) i b) (hx : hkey x ≠ hkey c) : x ∈ setL hs c i b ↔ x ∈ hs := by
  have e3 : hs = hs.take i ++ ((if b = true then [hs.getD i hc0] else []) ++ hs.drop (if b = true then i + 1 else i)) := by
    cases b with
    | false => simp
    | true =>
      obtain ⟨hi, _⟩ := h.is.1 rfl
      simp only [if_true]
      rw [← List.append_assoc, ← take_snocH hs i hi, List.take_append_drop]
  have hm : ∀ y, y ∈ (if b = true then [hs.getD i hc0] else []) → hkey y = hkey c := fun y hy => by
    cases b with
    | false => simp at hy
    | true =>
      rw [if_pos rfl, List.mem_singleton] at hy
      rw [hy]; exact (h.is.1 rfl).2
  unfold setL
  conv => rhs; rw [e3]
  simp only [List.mem_append, List.mem_singleton]
  constructor
  · rintro ((h1 | rfl) | h1)
    · exact .inl h1
    · exact absurd rfl hx
    · exact .inr (.inr h1)
  · rintro (h1 | h1 | h1)
    · exact .inl (.inl h1)
    · exact absurd (hm x h1) hx
    · exact .inr h1
/-- What was set is got. -/
theorem get_set {hs : List HC} {c : HC} {os : List HC} (hst : Stand hs) (h : SetIs hs c os) {x : Int} {er : Value} (hg : GetIs os (hkey c) x er) : x = c.v ∧ er = .nilIface := by
  obtain ⟨i, b, hf, rfl⟩ := h
  rcases getIs_mem hg with ⟨d, hd, hk, rfl, rfl⟩ | ⟨hn, _, _⟩
  · rw [stand_mem (stand_set hst hf) hd (mem_set hf) hk]; exact ⟨rfl, rfl⟩
  · exact absurd rfl (hn c (mem_set hf))
/-- All else is as it was. -/
theorem get_other {hs : List HC} {c : HC} {os : List HC} (hst : Stand hs) (h : SetIs hs c os) {K : Key} (hK : K ≠ hkey c) {x x2 : Int} {er er2 : Value} (hg : GetIs hs K x er) (hg2 : GetIs os K x2 er2) : x = x2 ∧ er = er2 := by
  obtain ⟨i, b, hf, rfl⟩ := h
  rcases getIs_mem hg with ⟨d, hd, hk, rfl, rfl⟩ | ⟨hn, rfl, rfl⟩
  · have hd2 : d ∈ setL hs c i b := (mem_set_other hf (by rw [hk]; exact hK)).2 hd
    rcases getIs_mem hg2 with ⟨d2, hd3, hk3, rfl, rfl⟩ | ⟨hn2, _, _⟩
    · rw [stand_mem (stand_set hst hf) hd2 hd3 (hk.trans hk3.symm)]; exact ⟨rfl, rfl⟩
    · exact absurd hk (hn2 d hd2)
  · rcases getIs_mem hg2 with ⟨d2, hd3, hk3, _, _⟩ | ⟨_, rfl, rfl⟩
    · exact absurd hk3 (hn d2 ((mem_set_other hf (by rw [hk3]; exact hK)).1 hd3))
    · exact ⟨rfl, rfl⟩
theorem dropL_idem (hs : List HC) (K : Key) : dropL (dropL hs K) K = dropL hs K := by unfold dropL; rw [List.filter_filter]; simp
theorem dropL_not {hs : List HC} {K : Key} : ∀ c, c ∈ dropL hs K → hkey c ≠ K := fun c hc => by
  have := (List.mem_filter.1 hc).2
  exact of_decide_eq_true this
theorem dropIs_yes {hs : List HC} (hst : Stand hs) {K : Key} {ds : List HC} {er : Value} (h : DropIs hs K ds er) {c : HC} (hc : c ∈ hs) (hk : hkey c = K) : er = .nilIface ∧ ds = dropL hs K := by
  cases h with
  | yes i hi hk2 =>
    refine ⟨rfl, ?_⟩
    rw [dropL_is hst (find_of hst hi hk2)]
    simp
  | no hn => obtain ⟨i, hi, rfl⟩ := getD_of_memH hc; exact absurd hk (hn i hi)
/-- What was set is dropped: what is left. -/
theorem drop_set {hs : List HC} {c : HC} {os : List HC} (hst : Stand hs) (h : SetIs hs c os) {ds : List HC} {er : Value} (hd : DropIs os (hkey c) ds er) : er = .nilIface ∧ ds = dropL os (hkey c) ∧ Stand ds ∧ ∀ os2, SetIs ds c os2 → os2 = os := by
  have hos := setEnd_same hst h
  obtain ⟨i, b, hf, rfl⟩ := h
  have hst2 := stand_set hst hf
  obtain ⟨e1, e2⟩ := dropIs_yes hst2 hd (mem_set hf) rfl
  have hsd : Stand ds := by rw [e2]; exact stand_drop hst2 _
  refine ⟨e1, e2, hsd, fun os2 h2 => ?_⟩
  have h3 := setEnd_same hsd h2
  have e4 : dropL (setL hs c i b) (hkey c) = dropL hs (hkey c) := by
    rw [dropL_is hst hf]
    unfold setL dropL
    rw [List.filter_append, List.filter_append]
    have a1 : (hs.take i).filter (fun x => decide (hkey x ≠ hkey c)) = hs.take i := List.filter_eq_self.2 fun x hx => by
      obtain ⟨j, h1, h2, rfl⟩ := getD_mem_take hx
      exact decide_eq_true (kl_ne (hf.lo j h1))
    have a2 : (hs.drop (if b = true then i + 1 else i)).filter (fun x => decide (hkey x ≠ hkey c)) = hs.drop (if b = true then i + 1 else i) := List.filter_eq_self.2 fun x hx => by
      obtain ⟨j, h1, h2, rfl⟩ := getD_mem_drop hx
      exact decide_eq_true (kl_ne (hf.above hst j h1 h2)).symm
    have a3 : [c].filter (fun x => decide (hkey x ≠ hkey c)) = [] := by rw [List.filter_cons, if_neg (by simp), List.filter_nil]
    rw [a1, a2, a3, List.append_nil]
  rw [h3, e2, e4, dropL_idem]
  exact hos.symm
theorem get_dropped {os : List HC} {K : Key} {ds : List HC} (h : ds = dropL os K) {x : Int} {er : Value} (hg : GetIs ds K x er) : x = 0 ∧ er = E15 := by
  rcases getIs_mem hg with ⟨d, hd, hk, _, _⟩ | ⟨_, rfl, rfl⟩
  · rw [h] at hd; exact absurd hk (dropL_not d hd)
  · exact ⟨rfl, rfl⟩
theorem get_fresh {hs : List HC} (hst : Stand hs) {g : Bs} {x : Int} {er : Value} (hg : GetIs hs (if hs.length = 0 then 1 else (hs.getD (hs.length - 1) hc0).a + 1, g) x er) : er = E15 := by
  rcases getIs_mem hg with ⟨d, hd, hk, _, _⟩ | ⟨_, _, rfl⟩
  · obtain ⟨i, hi, rfl⟩ := getD_of_memH hd
    have h1 : (hs.getD i hc0).a = (if hs.length = 0 then 1 else (hs.getD (hs.length - 1) hc0).a + 1) := (Prod.mk.inj hk).1
    rw [if_neg (by omega)] at h1
    exfalso
    by_cases e : i = hs.length - 1
    · subst e; omega
    · have := hst.lt (show i < hs.length - 1 by omega) (by omega)
      rw [kl_iff] at this
      simp only [hkey] at this
      omega
  · rfl
theorem setIs_len {hs : List HC} {c : HC} {os : List HC} (h : SetIs hs c os) : os.length ≤ hs.length + 1 ∧ c ∈ os := by
  obtain ⟨i, b, hf, rfl⟩ := h
  refine ⟨?_, mem_set hf⟩
  rw [setL_len hf.le]
  have := hf.le
  split <;> omega
theorem stand_setIs {hs : List HC} {c : HC} {os : List HC} (hst : Stand hs) (h : SetIs hs c os) : Stand os := by
  obtain ⟨i, b, hf, rfl⟩ := h
  exact stand_set hst hf
theorem HRow.came {B : Nat} {xs : List HC} {v : Value} {w : World} (h : HRow B xs v w) : ∃ a cap, v = .slice a xs.length cap ∧ (xs.length ≤ cap ∧ cap ≤ 9223372036854775807) ∧ (a = none → cap = 0) ∧ (∀ q, a = some q → q.spot = none) ∧ HLies w.heap.size w a xs := by
  obtain ⟨a, cap, e, h1, h2, h3, _⟩ := own_hlies rfl h
  rcases h.2 with ⟨e2, h0⟩ | ⟨g, cap', cur, e2, _⟩
  · rw [e] at e2
    injection e2 with e4 e5 e6
    exact ⟨a, cap, e, ⟨h1, h2⟩, fun _ => e6, fun q hq => (by rw [e4] at hq; cases hq), h3⟩
  · rw [e] at e2
    injection e2 with e4 e5 e6
    exact ⟨a, cap, e, ⟨h1, h2⟩, fun hn => (by rw [e4] at hn; cases hn), fun q hq => (by rw [e4] at hq; injection hq with hq; rw [← hq]), h3⟩
end Go.Proofs.Yteiomafciignkaa
