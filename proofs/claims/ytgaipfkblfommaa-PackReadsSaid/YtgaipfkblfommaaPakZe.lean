/- The document's Read. -/
import Derived.Test.YtgaipfkblfommaaPakZd
set_option linter.unusedVariables false
set_option linter.unusedSimpArgs false
namespace Go.Proofs.Ytgaipfkblfommaa
set_option maxRecDepth 100000
open Go.RowKit

set_option maxHeartbeats 16000000 in
theorem dread_any (a : Option Addr) (l : List UInt8) (c : Nat) (w : World) (hl : Sits byteSh (Lo w.heap.size) w a l) (hc : l.length ≤ c ∧ c ≤ 9223372036854775807) :
    Calls Try.prog 13 #[.slice a l.length c] w (RReadEnd l w) := by
  have HA : Hid (Below w.heap.size w (w.alloc (.cells #[.slice none 0 0] 24))) := (Below.refl _ _).alloc (Nat.le_refl _) _
  have hsz : (w.alloc (.cells #[.slice none 0 0] 24)).heap.size = w.heap.size + 1 := by simp
  have z0 : (w.alloc (.cells #[.slice none 0 0] 24)).cell? ⟨w.heap.size, 0, none⟩ = some (.slice none 0 0) := (cell_of_row _ _ _ _ _ _ (heap_alloc_new w _)).trans rfl
  have zf := frozen_new w #[.slice none 0 0] 24 0
  by_cases hbig : (4194304 : Int) < (l.length : Int)
  · have HE : Hid (RReadEnd l w (.returned (.tuple #[.agg #[.slice none 0 0], .int .i64 2])) (w.alloc (.cells #[.slice none 0 0] 24))) := Lib.hid ⟨_, [], _, 2, rfl, .long (by omega), ⟨none, 0, rfl, Sits.nil _ _ _ _⟩, HA.out⟩
    have e0 := z0
    clear hl HA
    go_enter Try.func13, Try.ntmps13
    go_wp2_with fail
    refine bodyPost_ret (v := .tuple #[.agg #[.slice none 0 0], .int .i64 2]) ?_ rfl HE.out
    simp [results, Try.results13, go_sem, e0]
  · have hln : l.length ≤ 4194304 := by omega
    have HA1 : Hid (Below (w.alloc (.cells #[.slice none 0 0] 24)).heap.size (w.alloc (.cells #[.slice none 0 0] 24)) ((w.alloc (.cells #[.slice none 0 0] 24)).alloc (.cells #[.slice a l.length c, .int .i64 0, .bool false] 71))) := (Below.refl _ _).alloc (Nat.le_refl _) _
    have HA2 : Hid (Below ((w.alloc (.cells #[.slice none 0 0] 24)).alloc (.cells #[.slice a l.length c, .int .i64 0, .bool false] 71)).heap.size ((w.alloc (.cells #[.slice none 0 0] 24)).alloc (.cells #[.slice a l.length c, .int .i64 0, .bool false] 71)) (((w.alloc (.cells #[.slice none 0 0] 24)).alloc (.cells #[.slice a l.length c, .int .i64 0, .bool false] 71)).alloc (.cells #[.slice none 0 0] 24))) := (Below.refl _ _).alloc (Nat.le_refl _) _
    have HB1 : Hid (Below w.heap.size w ((w.alloc (.cells #[.slice none 0 0] 24)).alloc (.cells #[.slice a l.length c, .int .i64 0, .bool false] 71))) := HA.out.trans (HA1.out.mono HA.out.size)
    have HB : Hid (Below w.heap.size w (((w.alloc (.cells #[.slice none 0 0] 24)).alloc (.cells #[.slice a l.length c, .int .i64 0, .bool false] 71)).alloc (.cells #[.slice none 0 0] 24))) := HB1.out.trans (HA2.out.mono HB1.out.size)
    have hn1 := heap_alloc_new (w.alloc (.cells #[.slice none 0 0] 24)) (.cells #[.slice a l.length c, .int .i64 0, .bool false] 71)
    have hsz1 : ((w.alloc (.cells #[.slice none 0 0] 24)).alloc (.cells #[.slice a l.length c, .int .i64 0, .bool false] 71)).heap.size = w.heap.size + 2 := by simp
    have hsz2 : (((w.alloc (.cells #[.slice none 0 0] 24)).alloc (.cells #[.slice a l.length c, .int .i64 0, .bool false] 71)).alloc (.cells #[.slice none 0 0] 24)).heap.size = w.heap.size + 3 := by simp
    have HRS : Hid (DRt (w.heap.size + 1) l (some l) (((w.alloc (.cells #[.slice none 0 0] 24)).alloc (.cells #[.slice a l.length c, .int .i64 0, .bool false] 71)).alloc (.cells #[.slice none 0 0] 24))) := by
      rw [hsz] at hn1
      have h1 : DR (w.heap.size + 1) l 0 false ((w.alloc (.cells #[.slice none 0 0] 24)).alloc (.cells #[.slice a l.length c, .int .i64 0, .bool false] 71)) := by
        refine ⟨⟨a, c, (cell_of_row _ _ _ _ _ _ hn1).trans rfl, (cell_of_row _ _ _ _ _ _ hn1).trans rfl, (cell_of_row _ _ _ _ _ _ hn1).trans rfl, (hl.up HB1.out).keep (fun b (hb : b < w.heap.size) => Nat.lt_succ_of_lt hb) (fun _ _ _ => rfl), hc.1, hc.2⟩, fun j => ?_, by simp, by omega, Nat.zero_le _⟩
        have := frozen_new (w.alloc (.cells #[.slice none 0 0] 24)) #[.slice a l.length c, .int .i64 0, .bool false] 71 j
        rwa [hsz] at this
      exact ⟨0, rfl, h1.below HA2.out⟩
    have HC := Lib.hid (many_any (w.heap.size + 1) l (some l) _ HRS.out)
    have y0 := (HA2.out.cell (p := ⟨w.heap.size, 0, none⟩) (by simp; omega)).trans ((HA1.out.cell (p := ⟨w.heap.size, 0, none⟩) (by simp)).trans z0)
    have yf := (HA2.out.frozen (p := ⟨w.heap.size, 0, none⟩) (by simp; omega)).trans ((HA1.out.frozen (p := ⟨w.heap.size, 0, none⟩) (by simp)).trans zf)
    have hn2 := heap_alloc_new ((w.alloc (.cells #[.slice none 0 0] 24)).alloc (.cells #[.slice a l.length c, .int .i64 0, .bool false] 71)) (.cells #[.slice none 0 0] 24)
    rw [hsz1] at hn2
    have y2 : (((w.alloc (.cells #[.slice none 0 0] 24)).alloc (.cells #[.slice a l.length c, .int .i64 0, .bool false] 71)).alloc (.cells #[.slice none 0 0] 24)).cell? ⟨w.heap.size + 2, 0, none⟩ = some (.slice none 0 0) := (cell_of_row _ _ _ _ _ _ hn2).trans rfl
    have y2f : ∀ j, (((w.alloc (.cells #[.slice none 0 0] 24)).alloc (.cells #[.slice a l.length c, .int .i64 0, .bool false] 71)).alloc (.cells #[.slice none 0 0] 24)).frozen? ⟨w.heap.size + 2, j, none⟩ = false := fun j => by
      have := frozen_new ((w.alloc (.cells #[.slice none 0 0] 24)).alloc (.cells #[.slice a l.length c, .int .i64 0, .bool false] 71)) #[.slice none 0 0] 24 j
      rwa [hsz1] at this
    have HY := Lib.hid (And.intro y0 (And.intro yf (And.intro y2 (And.intro y2f hsz2))))
    have HL := Lib.hid hl
    have HCC := Lib.hid hc
    clear hl hn1 y0 yf y2f HRS hsz1 hsz z0 zf HA1 HA2 hn2 y2 hsz2 HA HB1
    go_enter Try.func13, Try.ntmps13
    go_wp2_with fail
    refine HC.out.mono ?_
    rintro e w2 ⟨n, at', bad, rfl, hdr, hle, hk2, hbeh⟩
    have hnb : n ≤ 4194304 := by omega
    obtain ⟨y0, yf, y2, y2f, hsz2⟩ := HY.out
    have hs2 := hk2.size
    obtain ⟨g, hg⟩ : ∃ g, g = w.heap.size + 1 := ⟨_, rfl⟩
    obtain ⟨hh, hhh⟩ : ∃ hh, hh = g + 1 := ⟨_, rfl⟩
    have e2 : hh = w.heap.size + 2 := by omega
    have HR2 : Hid (w2.cell? ⟨w.heap.size, 0, none⟩ = some (.slice none 0 0) ∧ w2.frozen? ⟨w.heap.size, 0, none⟩ = false) := Lib.hid ⟨(hk2.cell (h := w.heap.size) (by omega) (by omega) 0).trans y0, (hk2.frozen (h := w.heap.size) (by omega) (by omega) 0).trans yf⟩
    have HB2 : Hid (Below w.heap.size w w2) := Lib.hid (HB.out.trans (hk2.low (by omega) (by omega)))
    have HDC : Hid (Dc recSh 37 pRec g l hh 0 w2 ((some l).bind pMany) n 0 [] (((some l).bind pMany).map Prod.snd) (.slice none 0 0) w2) := Lib.hid (by
      rw [e2, hg]
      exact ⟨hdr.of_beh hbeh, Own.nil _ _ _ _, (hk2.cell (h := w.heap.size + 2) (by omega) (by omega) 0).trans y2, fun j => (hk2.frozen (h := w.heap.size + 2) (by omega) (by omega) j).trans (y2f j), fun _ _ => rfl, KeptH.refl _ _ _, Lp.start pRec hbeh, by omega, by omega⟩)
    have HSZ2 : Hid (w.heap.size + 3 ≤ w2.heap.size) := Lib.hid (by omega)
    clear hdr hle hk2 hbeh y0 yf y2 y2f hsz2 hs2 HY HB HC
    go_wp2_with fail
    simp only [← hg]
    simp only [← hhh]
    have HGG := Lib.hid (And.intro hg e2)
    clear hg hhh e2
    go_loopw [7] (fun i wr => ∃ (k : Nat) (xs : List Rec) (sk : Option (List UInt8)) (u : Value), i = .int .i64 k ∧ k ≤ n ∧ Hid (Dc recSh 37 pRec g l hh 0 w2 ((some l).bind pMany) n k xs sk u wr)) (fun i _ => n - (intOf i).toNat)
    case atStart => exact ⟨0, [], _, _, rfl, Nat.zero_le _, HDC⟩
    case round =>
      clear HDC
      obtain ⟨k, xs, sk, u, rfl, hk, hE⟩ := hrel
      by_cases hlt : k < n
      · have hlti : (k : Int) < (n : Int) := by omega
        cases sk with
        | none =>
          have g2 := hE.out.rs.flag.1
          have HBW : Below w.heap.size w wr := HB2.out.trans (hE.out.kept.below (by have := HGG.out; omega) (by have := HGG.out; omega) (by have := HB2.out.size; omega))
          have hblk := hE.out.kept.block w.heap.size (by have := HSZ2.out; omega) (by have := HGG.out; omega) (by have := HGG.out; omega)
          have q0 := (World.cell?_of_block (a := ⟨w.heap.size, 0, none⟩) hblk).trans HR2.out.1
          have qf := (World.frozen?_of_block (a := ⟨w.heap.size, 0, none⟩) hblk).trans HR2.out.2
          have hfin : pWit l = none := hE.out.lp.fin (.inr rfl)
          have FR := ((Far.refl w.heap.size wr).set (j := 0) (.slice none 0 0))
          have e0 := res1 (.slice none 0 0) q0
          have HE : Hid (RReadEnd l w (.returned (.tuple #[.agg #[(.slice none 0 0)], .int .i64 5])) (wr.setCell ⟨w.heap.size, 0, none⟩ (.slice none 0 0))) := Lib.hid ⟨_, [], _, 5, rfl, .form hln hfin, ⟨none, 0, rfl, Sits.nil _ _ _ _⟩, HBW.trans (FR.below (Nat.le_refl _))⟩
          clear hE HBW hblk FR HR2 HB2 HL HCC HGG HSZ2
          go_wp2_with fail
          refine bodyPost_ret (v := .tuple #[.agg #[(.slice none 0 0)], .int .i64 5]) ?_ rfl HE.out
          simp [results, Try.results13, go_sem, e0]
        | some r =>
          have g2 := hE.out.rs.flag.1
          obtain ⟨au, cu, rfl, _⟩ := hE.out.slot hnb
          have HA : Hid (Below wr.heap.size wr (wr.alloc (.cells #[.string ⟨#[]⟩, .slice none 0 0] 37))) := (Below.refl _ _).alloc (Nat.le_refl _) _
          have hgr : g < wr.heap.size := hE.out.rs.lt
          have hne : wr.heap.size ≠ g := by omega
          have z0 := cell_of_row (wr.alloc (.cells #[.string ⟨#[]⟩, .slice none 0 0] 37)) wr.heap.size 0 _ _ _ (heap_alloc_new wr _)
          have z1 := cell_of_row (wr.alloc (.cells #[.string ⟨#[]⟩, .slice none 0 0] 37)) wr.heap.size 1 _ _ _ (heap_alloc_new wr _)
          have zf := fun j => frozen_new wr #[.string ⟨#[]⟩, .slice none 0 0] 37 j
          have hsz : (wr.alloc (.cells #[.string ⟨#[]⟩, .slice none 0 0] 37)).heap.size = wr.heap.size + 1 := by simp
          have HM := Lib.hid (many_any g l (some r) _ (hE.out.rs.below HA.out))
          have HZ := Lib.hid (And.intro z0 (And.intro z1 (And.intro zf hsz)))
          have HBR : Hid (Below w.heap.size w wr) := Lib.hid (HB2.out.trans (hE.out.kept.below (by have := HGG.out; omega) (by have := HGG.out; omega) (by have := HB2.out.size; omega)))
          clear z0 z1 zf hsz
          go_wp2_with fail
          refine HM.out.mono ?_
          rintro e w3 ⟨kk, at3, bad3, rfl, hdr3, hle3, hk3, hbeh3⟩
          obtain ⟨z0, z1, zf, hsz⟩ := HZ.out
          have hs3 := hk3.size
          have c0 := (hk3.cell (h := wr.heap.size) (by omega) hne 0).trans (z0.trans rfl)
          have c1 := (hk3.cell (h := wr.heap.size) (by omega) hne 1).trans (z1.trans rfl)
          have cf := fun j => (hk3.frozen (h := wr.heap.size) (by omega) hne j).trans (zf j)
          have cf0 := cf 0
          have HSI : Sits byteSh (Lo w.heap.size) w3 a l := HL.out.blow (HBR.out.trans (((KeptG.of_below HA.out).trans hk3).low (by have := HGG.out; omega) (by have := HBR.out.size; omega)))
          obtain ⟨ad, hcut, hsc⟩ := cut_run HSI hle3 HCC.out.1
          have hlen : ((l.drop at3).take kk).length = kk := by rw [List.length_take, List.length_drop]; omega
          have hcv : ∀ q, (convert 27 9 (.slice ad kk (c - at3))).run Try.prog (w3.drewN q) = .ok (.string ⟨((l.drop at3).take kk).toArray⟩) (w3.drewN q) := fun q => by
            have := conv_bytes (c - at3) (hsc.blow (below_drewN2 (Below.refl w.heap.size w3) q))
            rwa [hlen] at this
          have hcv1 : (convert 27 9 (.slice ad kk (c - at3))).run Try.prog w3.drew = .ok (.string ⟨((l.drop at3).take kk).toArray⟩) w3.drew := hcv 1
          obtain ⟨aa, ca, d0, d1, d2, _⟩ := hdr3.st
          have df1 := hdr3.fr 1
          have hwr : IntKind.i64.wrap ((at3 : Int) + (kk : Int)) = (at3 : Int) + (kk : Int) := IntWalk.i64_in _ (by omega)
          have HDR := Lib.hid hdr3
          have HBE := Lib.hid hbeh3
          have HK3 : Hid (KeptG g wr w3) := Lib.hid ((KeptG.of_below HA.out).trans hk3)
          have HCF := Lib.hid cf
          have HC1 := Lib.hid c1
          have HS3 : Hid (wr.heap.size < w3.heap.size) := Lib.hid (by omega)
          have hle3i : (at3 : Int) + (kk : Int) ≤ (l.length : Int) := by omega
          generalize hnm : (⟨((l.drop at3).take kk).toArray⟩ : ByteArray) = nm at *
          have HNM := Lib.hid hnm
          clear hdr3 hbeh3 hk3 z0 z1 zf hsz hs3 cf c1 HZ HM HA HSI hsc hlen hnm hcv g2
          go_wp2_with fail
          go_region
          have FRX : Far wr.heap.size w3 (w3.setCell ⟨wr.heap.size, 0, none⟩ (.string nm)) := (Far.refl _ _).set _
          have hdr4 : DR g l at3 bad3 (w3.setCell ⟨wr.heap.size, 0, none⟩ (.string nm)).drew := (HDR.out.low (FRX.below (B := wr.heap.size) (Nat.le_refl _)) hgr).below ((Below.refl _ _).drew)
          have x0 : (w3.setCell ⟨wr.heap.size, 0, none⟩ (.string nm)).drew.cell? ⟨wr.heap.size, 0, none⟩ = some (.string nm) := World.cell?_setCell_same' _ _ _ (by rw [c0]; rfl)
          have x1 : (w3.setCell ⟨wr.heap.size, 0, none⟩ (.string nm)).drew.cell? ⟨wr.heap.size, 1, none⟩ = some (.slice none 0 0) := (World.cell?_setCell_other w3 ⟨wr.heap.size, 0, none⟩ ⟨wr.heap.size, 1, none⟩ _ (by simp)).trans HC1.out
          have xf : ∀ j, (w3.setCell ⟨wr.heap.size, 0, none⟩ (.string nm)).drew.frozen? ⟨wr.heap.size, j, none⟩ = false := fun j => by
            show (w3.setCell ⟨wr.heap.size, 0, none⟩ (.string nm)).frozen? ⟨wr.heap.size, j, none⟩ = false
            rw [World.frozen?_setCell]; exact HCF.out j
          have hk4 : KeptG g wr (w3.setCell ⟨wr.heap.size, 0, none⟩ (.string nm)).drew := (HK3.out.far FRX (Nat.le_refl _)).trans ⟨rfl, rfl, rfl, Nat.le_refl _, fun _ _ _ => rfl⟩
          have xs4 : wr.heap.size < (w3.setCell ⟨wr.heap.size, 0, none⟩ (.string nm)).drew.heap.size := by
            show wr.heap.size < (w3.setCell ⟨wr.heap.size, 0, none⟩ (.string nm)).heap.size
            rw [FRX.size]; exact HS3.out
          clear FRX c0 cf0 d0 d1 d2 df1 HDR HC1 HCF HK3 HS3 hcv1 hcut
          generalize (w3.setCell ⟨wr.heap.size, 0, none⟩ (.string nm)).drew = w4 at *
          obtain ⟨_, _, _, d1, _⟩ := hdr4.st
          have df1 := hdr4.fr 1
          have hdr5 := hdr4.go kk hle3
          obtain ⟨hst5, hx5⟩ := name_end HBE.out hdr5
          rw [HNM.out] at hx5
          have FR5 : KeptG g w4 (w4.setCell ⟨g, 1, none⟩ (.int .i64 ((at3 + kk : Nat) : Int))) := KeptG.set
          have y0 := (FR5.cell xs4 hne 0).trans x0
          have y1 := (FR5.cell xs4 hne 1).trans x1
          have yf := fun j => (FR5.frozen xs4 hne j).trans (xf j)
          have hk5 := hk4.trans FR5
          have ys : wr.heap.size < (w4.setCell ⟨g, 1, none⟩ (.int .i64 ((at3 + kk : Nat) : Int))).heap.size := Nat.lt_of_lt_of_le xs4 FR5.size
          rw [Int.natCast_add] at hst5 y0 y1 yf hk5 ys
          obtain ⟨sn, hsn⟩ : ∃ sn, sn = nxt pName (some r) := ⟨_, rfl⟩
          rw [← hsn] at hst5
          have HST : Hid (sn = nxt pName (some r) ∧ ∀ y r', (some r).bind pName = some (y, r') → nm = y) := Lib.hid ⟨hsn, hx5⟩
          have HM := Lib.hid (many_any g l sn _ hst5)
          have HY := Lib.hid (And.intro y0 (And.intro y1 (And.intro yf (And.intro ys hk5))))
          clear hdr4 hdr5 hst5 hx5 FR5 y0 y1 yf ys hk5 hk4 x0 x1 xf xs4 hsn HBE HNM
          go_wp2_with fail
          generalize w4.setCell ⟨g, 1, none⟩ (.int .i64 ((at3 : Int) + (kk : Int))) = w4' at *
          refine HM.out.mono ?_
          rintro e w5 ⟨m, at5, bad5, rfl, hdr5, hle5, hk5, hbeh5⟩
          have hmb : m ≤ 4194304 := by omega
          obtain ⟨y0, y1, yf, ys, hk4⟩ := HY.out
          have hs5 := hk5.size
          have HO5 : Hid (w5.cell? ⟨wr.heap.size, 0, none⟩ = some (.string nm) ∧ wr.heap.size < w5.heap.size) := Lib.hid ⟨(hk5.cell ys hne 0).trans y0, by omega⟩
          have HK5 : Hid (KeptG g wr w5) := Lib.hid (hk4.trans hk5)
          have HDC : Hid (Dc replySh 50 pReply g l wr.heap.size 1 w5 (sn.bind pMany) m 0 [] ((sn.bind pMany).map Prod.snd) (.slice none 0 0) w5) := Lib.hid ⟨hdr5.of_beh hbeh5, Own.nil _ _ _ _, (hk5.cell ys hne 1).trans y1, fun j => (hk5.frozen ys hne j).trans (yf j), fun _ _ => rfl, KeptH.refl _ _ _, Lp.start pReply hbeh5, HO5.out.2, hgr⟩
          clear hdr5 hle5 hk5 hbeh5 y0 y1 yf ys hk4 hs5 HY HM d1 df1
          go_wp2_with fail
          go_loopw [11] (fun i w6 => ∃ (j : Nat) (ps : List Reply) (si : Option (List UInt8)) (ui : Value), i = .int .i64 j ∧ j ≤ m ∧ Hid (Dc replySh 50 pReply g l wr.heap.size 1 w5 (sn.bind pMany) m j ps si ui w6)) (fun i _ => m - (intOf i).toNat)
          case atStart => exact ⟨0, [], _, _, rfl, Nat.zero_le _, HDC⟩
          case round =>
            clear HDC
            rename World => w6
            obtain ⟨j, ps, si, ui, rfl, hj, HI⟩ := hrel
            by_cases hltj : j < m
            · have hltji : (j : Int) < (m : Int) := by omega
              have g2 := HI.out.rs.flag.1
              cases si with
              | none =>
                have HSL := Lib.hid (HI.out.slot hmb)
                have HNX := Lib.hid (HI.out.lp.nxt (.inr rfl))
                have r0 := (HI.out.oth 0 (by decide)).trans HO5.out.1
                have r1 := HI.out.cell
                have hk6 : KeptG g wr w6 := KeptH.to HK5.out HI.out.kept (Nat.le_refl _)
                have hwr6 := hk6.size
                have hsl : Slot replySh (fun b => wr.heap.size ≤ b ∧ b < w6.heap.size) w6 ui ps := HSL.out.keep (fun b ⟨b1, b2⟩ => ⟨by have := HO5.out.2; omega, b2⟩) (fun _ _ _ => rfl)
                obtain ⟨v9, w9, hr9, s5, s6, sf6, hd9⟩ := hE.out.step (P := Try.prog) (t := 22) Try.underlying22 Try.eachRecInfo (by decide) (by decide) hlt hnb (w5 := w6) (x := ⟨nm, ps⟩) (by
                    have e : nxt pRec (some r) = nxt (pEach pReply) (nxt pName (some r)) := seq_nxt pName (pEach pReply) Rec.mk (some r)
                    rw [e, ← HST.out.1, HNX.out.1]
                    exact HI.out.rs) (seq_end (f := Rec.mk) HST.out.2 (by rw [← HST.out.1]; exact HNX.out.2)) hk6 (cs := [.string nm, ui]) ⟨_, rfl, hsl⟩
                obtain ⟨ai, capi, rfl, _⟩ := hsl
                generalize xs ++ [(⟨nm, ps⟩ : Rec)] = xs' at hd9
                obtain ⟨av, cv, rfl, _⟩ := hd9.slot hnb
                have HEG := Lib.hid hd9
                clear HI HSL HNX hk6 hwr6 hE hd9 HO5 HK5 HST
                go_wp2_with (at_builtin; refine Lib.wpList_append_run _ rfl _ _ _ _ rfl _ _ rfl rfl _ _ (hr9 _) ?_)
                go_roundw
                case rel => exact ⟨k + 1, _, _, _, by go_num, by omega, HEG⟩
                case measure => simp [intOf]; omega
              | some r2 =>
                obtain ⟨ai, capi, rfl, _⟩ := HI.out.slot hmb
                have HID := Lib.hid HI.out.drew
                have HC := Lib.hid (dreply_any g l (some r2) w6.drew HID.out.rs)
                have c1 := HI.out.cell
                clear HI
                go_wp2_with fail
                go_region_law (first
                  | (refine step_append_run (by rfl) _ _ _ (by rfl) _ _ (.slice av ps'.length cv) w9 (by rfl) (by rfl) hr9 ?_)
                  | (go_simp
                     go_at_call 26
                     refine HC.out.mono ?_
                     rintro e w7 ⟨v7, y7, rfl, ⟨cs7, rfl, v7a, v7b, rfl, ⟨a7, c7, rfl, hs7⟩, ⟨a8, c8, rfl, hs8⟩⟩, hst7, hx7, hk7⟩
                     obtain ⟨v9, w9, hr9, s5, s6, sf6, hd9⟩ := HID.out.step (P := Try.prog) (t := 35) Try.underlying35 Try.eachReplyInfo2 (by decide) (by decide) hltj hmb hst7 hx7 hk7 (cs := [.bool y7.yes, .slice a7 y7.lems.length c7, .slice a8 y7.refute.length c8]) ⟨_, _, rfl, ⟨a7, c7, rfl, hs7⟩, ⟨a8, c8, rfl, hs8⟩⟩
                     have s5a : (w7.alloc (.cells #[.bool y7.yes, .slice a7 y7.lems.length c7, .slice a8 y7.refute.length c8] 50)).cell? ⟨wr.heap.size, 1, none⟩ = some (.slice ai ps.length capi) := (((Below.refl _ w7).alloc (Nat.le_refl _) _).cell (p := ⟨wr.heap.size, 1, none⟩) (by show wr.heap.size < w7.heap.size; have := hk7.size; have := HID.out.lt; have := HID.out.kept.size; omega)).trans s5
                     generalize ps ++ [y7] = ps' at hd9
                     obtain ⟨av, cv, hv9, _⟩ := hd9.slot hmb
                     subst hv9
                     have HEG := Lib.hid hd9
                     clear hs7 hs8 hst7 hx7 hk7 hd9))
                all_goals
                  clear c1 s5 s5a hr9 HC HID
                  go_wp2_with fail
                  go_roundw
                  case rel => exact ⟨j + 1, _, _, _, by go_num, by omega, HEG⟩
                  case measure => simp [intOf]; omega
            · have hltji : ¬ (j : Int) < (m : Int) := by omega
              obtain rfl : j = m := by omega
              have HSL := Lib.hid (HI.out.slot hmb)
              have HNX := Lib.hid (HI.out.lp.nxt (.inl rfl))
              have r0 := (HI.out.oth 0 (by decide)).trans HO5.out.1
              have r1 := HI.out.cell
              have hk6 : KeptG g wr w6 := KeptH.to HK5.out HI.out.kept (Nat.le_refl _)
              have hwr6 := hk6.size
              have hsl : Slot replySh (fun b => wr.heap.size ≤ b ∧ b < w6.heap.size) w6 ui ps := HSL.out.keep (fun b ⟨b1, b2⟩ => ⟨by have := HO5.out.2; omega, b2⟩) (fun _ _ _ => rfl)
              obtain ⟨v9, w9, hr9, s5, s6, sf6, hd9⟩ := hE.out.step (P := Try.prog) (t := 22) Try.underlying22 Try.eachRecInfo (by decide) (by decide) hlt hnb (w5 := w6) (x := ⟨nm, ps⟩) (by
                  have e : nxt pRec (some r) = nxt (pEach pReply) (nxt pName (some r)) := seq_nxt pName (pEach pReply) Rec.mk (some r)
                  rw [e, ← HST.out.1, HNX.out.1]
                  exact HI.out.rs) (seq_end (f := Rec.mk) HST.out.2 (by rw [← HST.out.1]; exact HNX.out.2)) hk6 (cs := [.string nm, ui]) ⟨_, rfl, hsl⟩
              obtain ⟨ai, capi, rfl, _⟩ := hsl
              generalize xs ++ [(⟨nm, ps⟩ : Rec)] = xs' at hd9
              obtain ⟨av, cv, rfl, _⟩ := hd9.slot hnb
              have HEG := Lib.hid hd9
              clear HI HSL HNX hk6 hwr6 hE hd9 HO5 HK5 HST
              go_wp2_with (at_builtin; refine Lib.wpList_append_run _ rfl _ _ _ _ rfl _ _ rfl rfl _ _ (hr9 _) ?_)
              go_roundw
              case rel => exact ⟨k + 1, _, _, _, by go_num, by omega, HEG⟩
              case measure => simp [intOf]; omega
      · have hlti : ¬ (k : Int) < (n : Int) := by omega
        obtain rfl : k = n := by omega
        cases sk with
        | none =>
          have g2 := hE.out.rs.flag.1
          have HBW : Below w.heap.size w wr := HB2.out.trans (hE.out.kept.below (by have := HGG.out; omega) (by have := HGG.out; omega) (by have := HB2.out.size; omega))
          have hblk := hE.out.kept.block w.heap.size (by have := HSZ2.out; omega) (by have := HGG.out; omega) (by have := HGG.out; omega)
          have q0 := (World.cell?_of_block (a := ⟨w.heap.size, 0, none⟩) hblk).trans HR2.out.1
          have qf := (World.frozen?_of_block (a := ⟨w.heap.size, 0, none⟩) hblk).trans HR2.out.2
          have hfin : pWit l = none := hE.out.lp.fin (.inl rfl)
          have FR := ((Far.refl w.heap.size wr).set (j := 0) (.slice none 0 0))
          have e0 := res1 (.slice none 0 0) q0
          have HE : Hid (RReadEnd l w (.returned (.tuple #[.agg #[(.slice none 0 0)], .int .i64 5])) (wr.setCell ⟨w.heap.size, 0, none⟩ (.slice none 0 0))) := Lib.hid ⟨_, [], _, 5, rfl, .form hln hfin, ⟨none, 0, rfl, Sits.nil _ _ _ _⟩, HBW.trans (FR.below (Nat.le_refl _))⟩
          clear hE HBW hblk FR HR2 HB2 HL HCC HGG HSZ2
          go_wp2_with fail
          refine bodyPost_ret (v := .tuple #[.agg #[(.slice none 0 0)], .int .i64 5]) ?_ rfl HE.out
          simp [results, Try.results13, go_sem, e0]
        | some rr =>
          have g2 := hE.out.rs.flag.1
          have HBW : Below w.heap.size w wr := HB2.out.trans (hE.out.kept.below (by have := HGG.out; omega) (by have := HGG.out; omega) (by have := HB2.out.size; omega))
          have hblk := hE.out.kept.block w.heap.size (by have := HSZ2.out; omega) (by have := HGG.out; omega) (by have := HGG.out; omega)
          have q0 := (World.cell?_of_block (a := ⟨w.heap.size, 0, none⟩) hblk).trans HR2.out.1
          have qf := (World.frozen?_of_block (a := ⟨w.heap.size, 0, none⟩) hblk).trans HR2.out.2
          obtain ⟨at6, hrr, hdr6⟩ : ∃ at6, rr = l.drop at6 ∧ DR g l at6 false wr := hE.out.rs
          have hfin : pWit l = some (xs, rr) := hE.out.lp.fin (.inl rfl)
          have hle6 := hdr6.le
          obtain ⟨_, _, _, d1, _⟩ := hdr6.st
          clear hdr6
          by_cases hmore : (at6 : Int) < (l.length : Int)
          · have hrl : 0 < rr.length := by rw [hrr, List.length_drop]; omega
            have FR := ((Far.refl w.heap.size wr).set (j := 0) (.slice none 0 0))
            have e0 := res1 (.slice none 0 0) q0
            have HE : Hid (RReadEnd l w (.returned (.tuple #[.agg #[(.slice none 0 0)], .int .i64 16])) (wr.setCell ⟨w.heap.size, 0, none⟩ (.slice none 0 0))) := Lib.hid ⟨_, [], _, 16, rfl, .more xs rr hln hfin hrl, ⟨none, 0, rfl, Sits.nil _ _ _ _⟩, HBW.trans (FR.below (Nat.le_refl _))⟩
            clear hE HBW hblk FR HR2 HB2 HL HCC HGG HSZ2
            go_wp2_with fail
            refine bodyPost_ret (v := .tuple #[.agg #[(.slice none 0 0)], .int .i64 16]) ?_ rfl HE.out
            simp [results, Try.results13, go_sem, e0]
          · have hrl : rr = [] := by rw [hrr]; exact List.drop_eq_nil_of_le (by omega)
            rw [hrl] at hfin
            have hsl := hE.out.slot hnb
            obtain ⟨au, cu, rfl, hsit⟩ := hsl
            have s0 := hE.out.cell
            have FR := ((Far.refl w.heap.size wr).set (j := 0) (.slice au xs.length cu))
            have e0 := res1 (.slice au xs.length cu) q0
            have HE : Hid (RReadEnd l w (.returned (.tuple #[.agg #[(.slice au xs.length cu)], .int .i64 0])) (wr.setCell ⟨w.heap.size, 0, none⟩ (.slice au xs.length cu))) := Lib.hid ⟨_, xs, _, 0, rfl, .fine xs hln hfin, (Slot.far ⟨au, cu, rfl, hsit⟩ FR (fun b ⟨b1, b2⟩ => ⟨by have := HSZ2.out; omega, by rw [FR.size]; exact b2⟩) (fun b ⟨b1, b2⟩ => by have := HSZ2.out; omega)), HBW.trans (FR.below (Nat.le_refl _))⟩
            clear hE HBW hblk FR HR2 HB2 HL HCC HGG HSZ2
            go_wp2_with fail
            refine bodyPost_ret (v := .tuple #[.agg #[(.slice au xs.length cu)], .int .i64 0]) ?_ rfl HE.out
            simp [results, Try.results13, go_sem, e0]
end Go.Proofs.Ytgaipfkblfommaa
