/-
  The walk of SectorTearing.
-/
import Derived.Test.YtbeapaliadahnaaDkJ
import Derived.BigQuiet
namespace Go.Proofs.Ytbeapaliadahnaa
open Go.RowKit

theorem write_gen {w : World} {F : Nat → Prop} {a n : Nat} {S : Dsk} (h : PD w F a n S) (hc : Calm S) (i : Int) (A : Option Addr) (len cap : Nat) (l : List UInt8) (hA : HasF F w A len (l.map bv)) :
    Calls Try.prog 15 #[.pointer (some ⟨a, 0, none⟩), .int .i64 i, .slice A len cap] w fun e w' => (∃ z, e = .returned (.int .i64 z)) ∧ (∃ S', Calm S' ∧ PD w' (fun k => F k ∨ newF w w' k) a n S') ∧ Frm F w w' := by
  by_cases hg : 0 ≤ i ∧ i < n ∧ len = 64
  · obtain ⟨h0, h1, rfl⟩ := hg
    obtain ⟨k, rfl⟩ : ∃ k : Nat, i = k := ⟨i.toNat, by omega⟩
    refine (write_calm h hc k (by omega) A cap l hA).mono ?_
    rintro e w' ⟨rfl, h1, h2⟩
    exact ⟨⟨0, rfl⟩, ⟨_, hc.put k l, h1⟩, h2⟩
  · have hok : (inR n i && decide (len = 64)) = false := by
      by_cases h0 : 0 ≤ i <;> by_cases h1 : i < n <;> by_cases h2 : len = 64 <;> simp [inR, h0, h1, h2]
      exact hg ⟨h0, h1, h2⟩
    have he : S.err (inR n i && decide (len = 64)) ≠ 0 := by rw [hok]; simp [Dsk.err, hc.2]
    refine (write_err h i A len cap he).mono ?_
    rintro e w' ⟨rfl, h1, h2⟩
    refine ⟨⟨_, rfl⟩, ⟨S, hc, ?_⟩, h2⟩
    rw [hok] at h1
    have hS : S.begun false = S := by simp [Dsk.begun]
    rw [hS] at h1
    exact h1.more (fun b hb => .inl hb) fun b hb => hb.elim (h1.lt b) fun h => h.2
theorem image_L {w : World} {F : Nat → Prop} {a n L : Nat} {S : Dsk} (h : PD w F a n S) (hL : L = 64 * n) : Calls Try.prog 30 #[.pointer (some ⟨a, 0, none⟩)] w fun e w' =>
    ∃ g, e = .returned (.slice (some ⟨g, 0, none⟩) L L) ∧ w.heap.size ≤ g ∧ w'.heap[g]? = some (.cells ((flat n S.st).map bv).toArray 5 (0, 0)) ∧ Below w.heap.size w w' := by rw [hL]; exact image_any h
theorem own_frm {w w' : World} {F : Nat → Prop} {base e size n : Nat} {v : Value} {xs : List Value} (h : w.ownsRow base e size v n xs) (hf : Frm F w w') (hF : ∀ b, F b → b < base) : w'.ownsRow base e size v n xs :=
  ⟨h.1, h.2.elim Or.inl fun ⟨g, cap, cur, hv, hg, hr, r⟩ => Or.inr ⟨g, cap, cur, hv, hg, hf.obj hr fun hb => by have := hF g hb; omega, r⟩⟩
theorem dirty_none {w : World} {F : Nat → Prop} {a n : Nat} {S : Dsk} (h : PD w F a n S) (hc : ∀ i, S.ca i = none) : Calls Try.prog 31 #[.pointer (some ⟨a, 0, none⟩)] w fun e w' => (∃ A c, e = .returned (.slice A 0 c)) ∧ Below w.heap.size w w' := by
  refine (dirty_any h).mono ?_
  rintro e w' ⟨v, rfl, ho, hb⟩
  have hd : dirtyZ n S.ca = [] := by simp [dirtyZ, dirty, hc]
  rw [hd] at ho
  obtain ⟨A, c, rfl, _⟩ := Has.of_own ho
  exact ⟨⟨A, c, rfl⟩, hb⟩
theorem frm_above {B : Nat} {w w' : World} (h : Below B w w') : Frm (fun k => B ≤ k) w w' := ⟨h.os, h.tape, h.output, h.size, fun k _ hk => h.block k (by omega)⟩

/-- A byte of a list, as the walk's number. -/
def by8 (l : List UInt8) (p : Nat) : Int := ((l.getD p 0).toNat : Int)
theorem row_cell {w : World} {g p : Nat} {l : List UInt8} (h : w.heap[g]? = some (.cells (l.map bv).toArray 5 (0, 0))) (hp : p < l.length) : w.cell? ⟨g, p, none⟩ = some (.int .u8 (by8 l p)) := by
  rw [cell_of_row w g p _ _ _ h]
  simp [by8, bv, List.getD_eq_getElem?_getD, List.getElem?_eq_getElem hp]
theorem lcast {L n : Nat} (h : L = 64 * n) : (L : Int) = 64 * (n : Int) := by omega
theorem dec_lt {a b : Nat} (h : a < b) : decide ((a : Int) < (b : Int)) = true := by simp [h]
theorem dec_nlt {a b : Nat} (h : ¬ a < b) : decide ((a : Int) < (b : Int)) = false := by simp; omega
theorem cast_lt {a b : Nat} (h : a < b) : (a : Int) < (b : Int) := by omega
theorem cast_le {a b : Nat} {c : Int} (h : a ≤ b) (hb : (b : Int) ≤ c) : (a : Int) ≤ c := by omega
theorem meas_lt {a b : Nat} (h : a < b) : b - (RowKit.intOf (.int .i64 ((a + 1 : Nat) : Int))).toNat < b - (RowKit.intOf (.int .i64 (a : Int))).toNat := by simp [RowKit.intOf]; omega
theorem wrap_small {a : Nat} {b : Int} (h : (a : Int) ≤ b) (hb : b ≤ 100000) : wrap64 (a : Int) = (a : Int) := by unfold wrap64; omega
theorem seg_facts {t n L K : Nat} {LA LC LS : Nat → Int} (ht : t < n) (hL : L = 64 * n) (hn : (n : Int) ≤ 60) (h : ∀ j, j < 64 → (j < K → LA (64 * t + j) = LC (64 * t + j)) ∧ (K ≤ j → LA (64 * t + j) = LS (64 * t + j))) :
    ∃ P E : Nat, E = P + 64 ∧ E ≤ L ∧ wrap64 ((t : Int) * 64) = (P : Int) ∧ (t : Int) * 64 = (P : Int) ∧ wrap64 (((t : Int) + 1) * 64) = (E : Int) ∧ ((t : Int) + 1) * 64 = (E : Int) ∧ (P : Int) ≤ 3840 ∧ (E : Int) ≤ 3904 ∧ Hid (∀ q, P ≤ q → q < E → (q < P + K → LA q = LC q) ∧ (P + K ≤ q → LA q = LS q)) := by
  refine ⟨64 * t, 64 * t + 64, rfl, by omega, by unfold wrap64; omega, by omega, by unfold wrap64; omega, by omega, by omega, by omega, fun q h1 h2 => ?_⟩
  obtain ⟨h3, h4⟩ := h (q - 64 * t) (by omega)
  rw [show 64 * t + (q - 64 * t) = q by omega] at h3 h4
  exact ⟨fun h => h3 (by omega), fun h => h4 (by omega)⟩
/-- What the walk knows of the three images. -/
def TearF (w w7 : World) (ga gs gc L n : Nat) : Prop := ∃ LA LS LC : Nat → Int, (∀ q, q < L → w7.cell? ⟨ga, q, none⟩ = some (.int .u8 (LA q))) ∧ (∀ q, q < L → w7.cell? ⟨gs, q, none⟩ = some (.int .u8 (LS q))) ∧ (∀ q, q < L → w7.cell? ⟨gc, q, none⟩ = some (.int .u8 (LC q))) ∧
  (∀ i, i < n → ∃ K, K ≤ 64 ∧ ∀ j, j < 64 → (j < K → LA (64 * i + j) = LC (64 * i + j)) ∧ (K ≤ j → LA (64 * i + j) = LS (64 * i + j))) ∧ ga < w7.heap.size ∧ gs < w7.heap.size ∧ gc < w7.heap.size ∧ Below w.heap.size w w7
theorem tear_facts {w wr w5 w6 w7 : World} {F : Nat → Prop} {n L ga gs gc : Nat} {S S' : Dsk} {ks : List (Int × Int)} (hL : L = 64 * n) (hok : S.Ok n) (hst' : S'.st = S.st) (hca' : S'.ca = S.ca) (hf45 : Frm F wr w5) (hb6 : Below w5.heap.size w5 w6) (hb7 : Below w6.heap.size w6 w7)
    (hrowa : w6.heap[ga]? = some (.cells ((flat n (S'.cut.restarted ks).st).map bv).toArray 5 (0, 0))) (hrow' : wr.heap[gs]? = some (.cells ((flat n S.st).map bv).toArray 5 (0, 0))) (hlc : ((flat n fun i => S.sec i).map bv).length = L)
    (hcellc : ∀ j (hj : j < ((flat n fun i => S.sec i).map bv).length), wr.cell? ⟨gc, j, none⟩ = some ((flat n fun i => S.sec i).map bv)[j]) (hFhi : ∀ b, F b → b < gs) (hgsc : gs < gc) (hgcl : gc < wr.heap.size) (hFlo : ∀ b, F b → w.heap.size ≤ b) (hbel : Below w.heap.size w wr) : TearF w w7 ga gs gc L n := by
  have hgsF : ¬ F gs := fun h => Nat.lt_irrefl _ (hFhi gs h)
  have hgcF : ¬ F gc := fun h => Nat.lt_irrefl _ (Nat.lt_trans (hFhi gc h) hgsc)
  have hf57 : Frm F wr w7 := (hf45.trans (Frm.of_below (F := F) hb6) fun _ h => .inl h).trans (Frm.of_below (F := F) hb7) fun _ h => .inl h
  have hst : (S'.cut.restarted ks).st = (S.restarted ks).st := by show ks.foldl (keep1 S'.ca) S'.st = ks.foldl (keep1 S.ca) S.st; rw [hst', hca']
  rw [hst] at hrowa
  have rA : w7.heap[ga]? = some (.cells ((flat n (S.restarted ks).st).map bv).toArray 5 (0, 0)) := (hb7.block ga (lt_of_some hrowa)).trans hrowa
  have rS := hf57.obj hrow' hgsF
  have lA : (flat n (S.restarted ks).st).length = L := by rw [flat_length (hok.restarted ks).st]; exact hL.symm
  have lS : (flat n S.st).length = L := by rw [flat_length hok.st]; exact hL.symm
  have lC : (flat n fun i => S.sec i).length = L := by rw [List.length_map] at hlc; exact hlc
  refine ⟨by8 (flat n (S.restarted ks).st), by8 (flat n S.st), by8 (flat n fun i => S.sec i), fun q hq => row_cell rA (by rw [lA]; exact hq), fun q hq => row_cell rS (by rw [lS]; exact hq), fun q hq => ?_, fun i hi => ?_, lt_of_some rA, lt_of_some rS, Nat.lt_of_lt_of_le hgcl hf57.size, hbel.trans (hf57.below hFlo hbel.size)⟩
  · rw [hf57.cell (p := ⟨gc, q, none⟩) hgcl hgcF, hcellc q (by rw [hlc]; exact hq)]
    have hq' : q < (flat n fun i => S.sec i).length := by rw [lC]; exact hq
    rw [List.getElem_map, bv_eq]
    simp only [by8]
    rw [List.getD_eq_getElem?_getD, List.getElem?_eq_getElem hq', Option.getD_some]
  · obtain ⟨K, hK, h⟩ := torn_flat hok ks hi
    exact ⟨K, hK, fun j hj => ⟨fun h1 => by simp only [by8, List.getD_eq_getElem?_getD]; rw [(h j hj).1 h1], fun h1 => by simp only [by8, List.getD_eq_getElem?_getD]; rw [(h j hj).2 h1]⟩⟩

set_option maxRecDepth 20000 in
set_option maxHeartbeats 3200000 in
theorem tearing_main (n : Nat) (h1 : 1 ≤ n) (h60 : n ≤ 60) (A : Option Addr) (m c : Nat) (os : List OpV) (Ak : Option Addr) (nk ck : Nat) (ks : List (Int × Int)) (w : World) (hO : OpsIn w A m os) (hK : PairsF noF w Ak nk ks) (hk80 : nk ≤ 80)
    (hs : Calls Try.prog 8 #[.slice A m c] w (SmallQ m os w)) :
    Calls Try.prog 5 #[.int .i64 n, .slice A m c, .slice Ak nk ck] w (Yes w) := by
  have hnew := new_yes n w h1 (by omega)
  have c1 : decide ((n : Int) < 1) = false := by simp; omega
  have c2 : decide ((60 : Int) < n) = false := by simp; omega
  have c3 : decide ((80 : Int) < nk) = false := by simp; omega
  obtain ⟨L, hL⟩ : ∃ L, L = 64 * n := ⟨_, rfl⟩
  have hwL : wrap64 ((n : Int) * 64) = (L : Int) := by unfold wrap64; omega
  have hwL' : (n : Int) * 64 = (L : Int) := by omega
  have hLb : (L : Int) ≤ 3840 := by omega
  have HL := Lib.hid hL
  have HO := Lib.hid hO
  have HK := Lib.hid hK
  have HN := Lib.hid (And.intro h1 h60)
  have hnb : (n : Int) ≤ 60 := by omega
  have HK80 := Lib.hid hk80
  clear hL hO hK h1 h60 hk80
  go_enter Try.func5, Try.ntmps5
  go_wp2_with fail
  refine hs.mono ?_
  rintro e w' ⟨b, rfl, hb, rfl⟩
  cases b
  · clear hb hnew
    go_wp2_with fail
    refine (awake_any _).mono ?_
    rintro e w2 ⟨rfl, hb2⟩
    go_wp2_with fail
    go_ret
    exact ⟨rfl, hb2⟩
  have HM := Lib.hid (And.intro (hb rfl).1 HK80.out)
  clear hb HK80
  go_wp2_with fail
  refine hnew.mono ?_
  rintro e w1 ⟨a, rfl, ha, hpd1, hb1⟩
  go_wp2_with fail
  go_loopw [9] (fun i wr => ∃ k : Nat, k ≤ m ∧ i = .int .i64 k ∧ Hid ((∃ S, Calm S ∧ PD wr (newF w wr) a n S) ∧ Below w.heap.size w wr)) (fun i _ => m - (RowKit.intOf i).toNat)
  case atStart => exact ⟨0, Nat.zero_le _, rfl, ⟨_, calm_fresh st0, hpd1⟩, hb1⟩
  case round =>
    obtain ⟨k, hk, rfl, HR⟩ := hrel
    have hkb : (k : Int) ≤ 80 := by have := HM.out.1; omega
    by_cases hlt : k < m
    · obtain ⟨b, off, rfl, hbw, hc⟩ := HO.out.2 (by omega)
      have hkf : k < os.length := by rw [HO.out.1]; exact hlt
      obtain ⟨hop, e0, e1, e2, e3, e4⟩ := hc k hkf
      have d0 := (HR.out.2.cell (p := ⟨b, off + k * 5, none⟩) hbw).trans e0
      have d1 := (HR.out.2.cell (p := ⟨b, off + k * 5 + 1, none⟩) hbw).trans e1
      have d2 := (HR.out.2.cell (p := ⟨b, off + k * 5 + 2, none⟩) hbw).trans e2
      have d3 := (HR.out.2.cell (p := ⟨b, off + k * 5 + 3, none⟩) hbw).trans e3
      have d4 := (HR.out.2.cell (p := ⟨b, off + k * 5 + 4, none⟩) hbw).trans e4
      have ha8 := Lib.hid hop.a8
      clear e0 e1 e2 e3 e4 hop
      generalize os[k] = o at d0 d1 d2 d3 d4 ha8
      obtain ⟨kd, sc, A8, n8, c8, l8, Af, nf, cf, fs, Ak', nk', ck', ks'⟩ := o
      simp only [] at d0 d1 d2 d3 d4 ha8
      clear hc hkf
      obtain ⟨⟨S, hcalm, hpd⟩, hbel⟩ := HR.out
      have hb0 : Below wr.heap.size wr (wr.alloc (.cells #[.int .i64 kd, .int .i64 sc, .slice A8 n8 c8, .slice Af nf cf, .slice Ak' nk' ck'] 36)) := (Below.refl _ _).alloc (Nat.le_refl _) _
      have hpd0 := Lib.hid (hpd.below hb0)
      have hbel0 := Lib.hid (hbel.trans (hb0.mono hbel.size))
      have hA8 := Lib.hid (HasF.of_low (F := newF w wr) (ha8.out.1.below' hbel0.out (Nat.le_refl _)) hbel0.out.size fun b hb => hb.1)
      have hcalm' := Lib.hid hcalm
      clear hpd hbel hcalm ha8
      by_cases hk1 : kd = 1
      · subst hk1
        go_wp2_with fail
        generalize (wr.alloc (.cells #[.int .i64 1, .int .i64 sc, .slice A8 n8 c8, .slice Af nf cf, .slice Ak' nk' ck'] 36)) = v0 at *
        refine (write_gen hpd0.out hcalm'.out sc A8 n8 c8 l8 hA8.out).mono ?_
        rintro e w3 ⟨⟨z, rfl⟩, hS3, hf3⟩
        have H3 := Lib.hid (And.intro hS3 hf3)
        clear hS3 hf3 hb0 d0 d1 d2 d3 d4
        go_wp2_with fail
        go_roundw
        case rel =>
          obtain ⟨⟨S3, hc3, hpd3⟩, hf3⟩ := H3.out
          have hbw3 := hbel0.out.trans (hf3.below (fun b hb => hb.1) hbel0.out.size)
          exact ⟨k + 1, by omega, by go_num, ⟨S3, hc3, hpd3.coarse fun b hb => hb.elim (fun h => h.1) fun h => by have := h.1; have := hbel0.out.size; omega⟩, hbw3⟩
        case measure => simp [RowKit.intOf]; omega
      · have hk1' : (kd == 1) = false := by simpa using hk1
        by_cases hk2 : kd = 2
        · subst hk2
          clear hk1
          go_wp2_with fail
          generalize (wr.alloc (.cells #[.int .i64 2, .int .i64 sc, .slice A8 n8 c8, .slice Af nf cf, .slice Ak' nk' ck'] 36)) = v0 at *
          refine (sync_calm hpd0.out hcalm'.out).mono ?_
          rintro e w3 ⟨rfl, hS3, hf3⟩
          have H3 := Lib.hid (And.intro hS3 hf3)
          clear hS3 hf3 hb0 d0 d1 d2 d3 d4
          go_wp2_with fail
          go_roundw
          case rel =>
            obtain ⟨hpd3, hf3⟩ := H3.out
            have hbw3 := hbel0.out.trans (hf3.below (fun b hb => hb.1) hbel0.out.size)
            exact ⟨k + 1, by omega, by go_num, ⟨_, hcalm'.out.flush, hpd3.coarse fun b hb => hb.1⟩, hbw3⟩
          case measure => simp [RowKit.intOf]; omega
        · have hk2' : (kd == 2) = false := by simpa using hk2
          clear hk1 hk2
          go_wp2_with fail
          go_roundw
          case rel => exact ⟨k + 1, by omega, by go_num, ⟨_, hcalm'.out, hpd0.out.coarse fun b hb => hb.1⟩, hbel0.out⟩
          case measure => simp [RowKit.intOf]; omega
    · have hkm : k = m := by omega
      obtain ⟨⟨S, hcalm, hpd⟩, hbel⟩ := HR.out
      clear HR
      go_wp2_with fail
      refine (image_L hpd HL.out).mono ?_
      rintro e w2 ⟨gs, rfl, hgs, hrows, hb2⟩
      have hbel2 := hbel.trans (hb2.mono hbel.size)
      have hFlo : Hid (∀ b, newF w wr b → w.heap.size ≤ b) := fun b hb => hb.1
      have hpd2 := hpd.below hb2
      have hFhi : Hid (∀ b, newF w wr b → b < gs) := fun b hb => by have := hpd.lt b hb; omega
      have hsz2 := lt_of_some hrows
      have hcalm' := Lib.hid hcalm
      clear hpd hbel hb2 hgs hcalm
      generalize newF w wr = F at *
      have H2 := Lib.hid (And.intro hpd2 (And.intro hrows hbel2))
      have hsec := Lib.hid (fun i (hi : i < n) => hpd2.ok.sec hi)
      clear hpd2 hrows hbel2 hs hnew hpd1 hb1 HO
      obtain ⟨i5, hi5, hz0, hz1, hz2⟩ := info_parts infoU8
      obtain ⟨B8, hB8⟩ : ∃ B8, B8 = w2.heap.size := ⟨_, rfl⟩
      have HB8 := Lib.hid hB8
      clear hB8
      go_wp2_with fail
      go_loopw [12, 13] (fun v i wr => ∃ k : Nat, k ≤ n ∧ i = .int .i64 k ∧ wr.ownsRow B8 5 1 v (64 * k) ((flat k fun i => S.sec i).map bv) ∧ Hid ((∃ S', Calm S' ∧ S'.st = S.st ∧ S'.ca = S.ca ∧ PD wr F a n S') ∧ wr.heap[gs]? = some (.cells ((flat n S.st).map bv).toArray 5 (0, 0)) ∧ Below w.heap.size w wr ∧ B8 ≤ wr.heap.size)) (fun _ i _ => n - (RowKit.intOf i).toNat)
      case atStart => exact ⟨0, Nat.zero_le _, rfl, ⟨rfl, .inl ⟨rfl, rfl⟩⟩, ⟨⟨S, hcalm'.out, rfl, rfl, H2.out.1⟩, H2.out.2.1, H2.out.2.2, Nat.le_of_eq HB8.out⟩⟩
      case round =>
        obtain ⟨k2, hk2, rfl, hown, HR⟩ := hrel
        have hkb2 : (k2 : Int) ≤ 60 := by omega
        by_cases hlt2 : k2 < n
        · obtain ⟨⟨S', hc', hst', hca', hpd'⟩, hrow', hbel', hB'⟩ := HR.out
          have hse : S'.sec k2 = S.sec k2 := by simp [Dsk.sec, hst', hca']
          have hrd := read_calm hpd' hc' k2 hlt2
          rw [hse] at hrd
          have hlen2 : (S.sec k2).length = 64 := hsec.out k2 hlt2
          have HS := Lib.hid (And.intro hc' (And.intro hst' (And.intro hca' (And.intro hrow' (And.intro hbel' (And.intro hB' hlen2))))))
          have hown' := Lib.hid hown
          clear hc' hst' hca' hpd' hrow' hbel' hB' hse hlen2 hown HR
          go_wp2_with fail
          refine hrd.mono ?_
          rintro e w3 ⟨hpd3, hf3, g3, rfl, hg3, hrow3⟩
          have hB3 : B8 ≤ w3.heap.size := by have := HS.out.2.2.2.2.2.1; have := hf3.size; omega
          have hown3 := own_frm hown'.out hf3 (fun b hb => by have := hFhi.out b hb; have := HB8.out; omega)
          have hhas3 := has_of_row hrow3 HS.out.2.2.2.2.2.2
          have H3 := Lib.hid (And.intro hpd3 hf3)
          have h63 : Hid (64 * k2 + 64 ≤ maxLen) := by show _ ≤ _; unfold maxLen; omega
          have hby : Hid ((64 * k2 + 64) * 1 ≤ 140737488355328) := by show _ ≤ _; omega
          clear hpd3 hf3 hrow3 hrd
          go_wp2_with (at_builtin; refine wpList_app_has _ rfl _ _ 32 (by exact rfl) B8 5 i5 (.int .u8 0) 1 tyBs hi5 hz0 hz1 hz2 rfl _ (64 * k2) _ (by exact rfl) hown3 (some ⟨g3, 0, none⟩) 64 64 _ _ (by exact rfl) (fun e => by cases e) hhas3 (one_bytes _) h63.out hby.out (Below.refl B8 w3) hB3 ?_; intro v' w4 hown4 hb4 hg4)
          go_roundw
          case rel =>
            obtain ⟨hc', hst', hca', hrow', hbel', hB', _⟩ := HS.out
            have hbel3 := hbel'.trans (H3.out.2.below hFlo.out hbel'.size)
            have hs3 := H3.out.2.size
            have hgs3 : ¬ F gs := fun h => Nat.lt_irrefl _ (hFhi.out gs h)
            have hww : w.heap.size ≤ B8 := by rw [HB8.out]; exact H2.out.2.2.size
            refine ⟨k2 + 1, by omega, by go_num, ?_, ⟨_, hc'.tick, hst', hca', H3.out.1.keep (frm_above hb4) fun b hb hF => by have := hFhi.out b hF; have := HB8.out; omega⟩, (hb4.block gs (by have := HB8.out; omega)).trans (H3.out.2.obj hrow' hgs3), hbel3.trans (hb4.mono hww), by have := hb4.size; omega⟩
            rw [flat_succ, List.map_append]
            exact hown4
          case measure => simp [RowKit.intOf]; omega
        · have hkn : k2 = n := by omega
          subst hkn
          have hown' := Lib.hid hown
          clear hown
          obtain ⟨⟨S', hc', hst', hca', hpd'⟩, hrow', hbel', hB'⟩ := HR.out
          clear HR
          have hL' := HL.out
          obtain ⟨gc, capc, ec, hgc, hgcl, hcellc⟩ := owns_cell hown'.out (by have := HN.out.1; omega)
          rw [← hL'] at ec
          subst ec
          have hgsc : gs < gc := by have := HB8.out; omega
          have hlenC : ((flat k2 fun i => S.sec i).map bv).length = L := by rw [List.length_map, flat_length hsec.out]; exact hL'.symm
          have HC := Lib.hid (And.intro hcellc (And.intro hlenC (And.intro hgcl (And.intro hrow' (And.intro hbel' (And.intro hca' hst'))))))
          have hc2 := Lib.hid hc'
          have hok := Lib.hid H2.out.1.ok
          clear hL' hcellc hlenC hgcl hrow' hbel' hB' hca' hst' hgc hc'
          go_wp2_with fail
          refine (cut_any hpd').mono ?_
          rintro e w4 ⟨rfl, hpd4, hf4⟩
          have hbel4 := HC.out.2.2.2.2.1.trans (hf4.below hFlo.out HC.out.2.2.2.2.1.size)
          have hP4 : PairsF F w4 Ak nk ks := HK.out.keep (Frm.of_below hbel4) fun b hb => .inr (hFlo.out b hb)
          go_wp2_with fail
          refine (restart_any hpd4 Ak nk ck ks hP4 (by have := HM.out.2; omega)).mono ?_
          rintro e w5 ⟨rfl, hpd5, hf5⟩
          go_wp2_with fail
          refine (image_L hpd5 HL.out).mono ?_
          rintro e w6 ⟨ga, rfl, hga, hrowa, hb6⟩
          have hpd6 := hpd5.below hb6
          go_wp2_with fail
          refine (dirty_none hpd6 fun _ => rfl).mono ?_
          rintro e w7 ⟨⟨Ad, cd, rfl⟩, hb7⟩
          have hpd7 := hpd6.below hb7
          have hoff := off_any hpd7
          rw [show (S'.cut.restarted ks).off = false from rfl] at hoff
          have HTF := tear_facts HL.out hok.out HC.out.2.2.2.2.2.2 HC.out.2.2.2.2.2.1 (hf4.trans' hf5) hb6 hb7 hrowa HC.out.2.2.2.1 HC.out.2.1 HC.out.1 hFhi.out hgsc HC.out.2.2.1 hFlo.out HC.out.2.2.2.2.1
          clear hpd' hpd4 hf4 hbel4 hP4 hpd5 hf5 hga hrowa hb6 hpd6 hb7 hpd7 hgsc hown'
          obtain ⟨LA, LS, LC, hTA, hTS, hTC, hTT, hlga, hlgs, hlgc, hbel7⟩ := HTF
          have cA := Lib.hid hTA
          have cS := Lib.hid hTS
          have cC := Lib.hid hTC
          have HT := Lib.hid hTT
          have HB7 := Lib.hid hbel7
          have hLI : (L : Int) = 64 * k2 := lcast HL.out
          have HLI := Lib.hid hLI
          clear hTA hTS hTC hTT hbel7 hLI
          go_wp2_with (go_at_call 32; refine hoff.mono ?_; rintro e w' ⟨rfl, rfl⟩)
          go_loopw [17] (fun i wx => ∃ t : Nat, t ≤ k2 ∧ i = .int .i64 t ∧ Hid (Below w7.heap.size w7 wx)) (fun i _ => k2 - (RowKit.intOf i).toNat)
          case atStart => exact ⟨0, Nat.zero_le _, rfl, Below.refl _ _⟩
          case round =>
            obtain ⟨t, ht, rfl, HRx⟩ := hrel
            have htb : (t : Int) ≤ 60 := cast_le ht hkb2
            by_cases hlt3 : t < k2
            · obtain ⟨K, hK, hKT⟩ := HT.out t hlt3
              obtain ⟨P, E, hE, hEL, m1, m2, m3, m4, hPb, hEb, HKT⟩ := seg_facts hlt3 HL.out hkb2 hKT
              have hPE : P ≤ E := by rw [hE]; exact Nat.le_add_right _ _
              have hPK : P + K ≤ E := by rw [hE]; exact Nat.add_le_add_left hK _
              have m5 := wrap_small hEb (by decide)
              have m6 := wrap_small hPb (by decide)
              clear hKT hE
              go_wp2
              try rw [m5]
              go_loopw [20] (fun v wy => ∃ q : Nat, P ≤ q ∧ q ≤ E ∧ v = .int .i64 q ∧ Hid (Below w7.heap.size w7 wy)) (fun v _ => E - (RowKit.intOf v).toNat)
              case atStart => exact ⟨P, Nat.le_refl _, hPE, rfl, HRx.out⟩
              case round =>
                obtain ⟨q, hq0, hq1, rfl, HRy⟩ := hrel
                have hqb : (q : Int) ≤ 3904 := cast_le hq1 hEb
                by_cases hqE : q < E
                · have hd : decide ((q : Int) < (E : Int)) = true := dec_lt hqE
                  have hqL : (q : Int) < (L : Int) := cast_lt (Nat.lt_of_lt_of_le hqE hEL)
                  have da := (HRy.out.cell (p := ⟨ga, q, none⟩) hlga).trans (cA.out q (Nat.lt_of_lt_of_le hqE hEL))
                  have dc := (HRy.out.cell (p := ⟨gc, q, none⟩) hlgc).trans (cC.out q (Nat.lt_of_lt_of_le hqE hEL))
                  have hqq := Lib.hid (HKT.out q hq0 hqE).1
                  generalize LA q = x at da hqq
                  generalize LC q = y at dc hqq
                  by_cases hxy : x = y
                  · subst hxy
                    go_wp2
                    go_quiet (fail)
                    go_wp2
                    go_roundw
                    case rel => first | exact ⟨q + 1, Nat.le_succ_of_le hq0, hqE, by go_num, HRy.out.trans (below_drewN _ _ _)⟩ | (repeat (first | exact ⟨⟨q + 1, Nat.le_succ_of_le hq0, hqE, rfl, HRy.out.trans (below_drewN _ _ _)⟩, rfl⟩ | apply Exists.intro))
                    case measure => exact meas_lt hqE
                  · have hxy' : (x == y) = false := by simpa using hxy
                    have hKq : P + K ≤ q := Nat.le_of_not_lt fun h => hxy (hqq.out h)
                    clear hxy hqq
                    go_wp2
                    go_quiet (fail)
                    go_wp2
                    go_loopw [20] (fun v wy => ∃ q : Nat, P + K ≤ q ∧ q ≤ E ∧ v = .int .i64 q ∧ Hid (Below w7.heap.size w7 wy)) (fun v _ => E - (RowKit.intOf v).toNat)
                    case atStart => exact ⟨q, hKq, hq1, rfl, HRy.out.trans (below_drewN _ _ _)⟩
                    case round =>
                      obtain ⟨q2, hq20, hq21, rfl, HRz⟩ := hrel
                      have hq2b : (q2 : Int) ≤ 3904 := cast_le hq21 hEb
                      by_cases hqE2 : q2 < E
                      · have hd2 : decide ((q2 : Int) < (E : Int)) = true := dec_lt hqE2
                        have hqL2 : (q2 : Int) < (L : Int) := cast_lt (Nat.lt_of_lt_of_le hqE2 hEL)
                        have da2 := (HRz.out.cell (p := ⟨ga, q2, none⟩) hlga).trans (cA.out q2 (Nat.lt_of_lt_of_le hqE2 hEL))
                        have ds2 := (HRz.out.cell (p := ⟨gs, q2, none⟩) hlgs).trans (cS.out q2 (Nat.lt_of_lt_of_le hqE2 hEL))
                        have hxy2 := ((HKT.out q2 (Nat.le_trans (Nat.le_add_right P K) hq20) hqE2).2 hq20)
                        rw [← hxy2] at ds2
                        generalize LA q2 = x2 at da2 ds2 hxy2
                        clear hxy2
                        go_wp2
                        go_quiet (fail)
                        go_wp2
                        go_roundw
                        case rel => exact ⟨q2 + 1, Nat.le_succ_of_le hq20, hqE2, by go_num, HRz.out.trans (below_drewN _ _ _)⟩
                        case measure => exact meas_lt hqE2
                      · have hd2 : decide ((q2 : Int) < (E : Int)) = false := dec_nlt hqE2
                        go_wp2
                        go_quiet (fail)
                        go_wp2
                        go_quiet (fail)
                        go_wp2
                        go_roundw
                        case rel => exact ⟨t + 1, hlt3, by go_num, HRz.out.trans (below_drewN _ _ _)⟩
                        case measure => exact meas_lt hlt3
                · have hd : decide ((q : Int) < (E : Int)) = false := dec_nlt hqE
                  have hKq : P + K ≤ q := Nat.le_trans hPK (Nat.le_of_not_lt hqE)
                  go_wp2
                  go_quiet (fail)
                  go_wp2
                  go_loopw [20] (fun v wy => ∃ q : Nat, P + K ≤ q ∧ q ≤ E ∧ v = .int .i64 q ∧ Hid (Below w7.heap.size w7 wy)) (fun v _ => E - (RowKit.intOf v).toNat)
                  case atStart => exact ⟨q, hKq, hq1, rfl, HRy.out.trans (below_drewN _ _ _)⟩
                  case round =>
                    obtain ⟨q2, hq20, hq21, rfl, HRz⟩ := hrel
                    have hq2b : (q2 : Int) ≤ 3904 := cast_le hq21 hEb
                    by_cases hqE2 : q2 < E
                    · have hd2 : decide ((q2 : Int) < (E : Int)) = true := dec_lt hqE2
                      have hqL2 : (q2 : Int) < (L : Int) := cast_lt (Nat.lt_of_lt_of_le hqE2 hEL)
                      have da2 := (HRz.out.cell (p := ⟨ga, q2, none⟩) hlga).trans (cA.out q2 (Nat.lt_of_lt_of_le hqE2 hEL))
                      have ds2 := (HRz.out.cell (p := ⟨gs, q2, none⟩) hlgs).trans (cS.out q2 (Nat.lt_of_lt_of_le hqE2 hEL))
                      have hxy2 := ((HKT.out q2 (Nat.le_trans (Nat.le_add_right P K) hq20) hqE2).2 hq20)
                      rw [← hxy2] at ds2
                      generalize LA q2 = x2 at da2 ds2 hxy2
                      clear hxy2
                      go_wp2
                      go_quiet (fail)
                      go_wp2
                      go_roundw
                      case rel => exact ⟨q2 + 1, Nat.le_succ_of_le hq20, hqE2, by go_num, HRz.out.trans (below_drewN _ _ _)⟩
                      case measure => exact meas_lt hqE2
                    · have hd2 : decide ((q2 : Int) < (E : Int)) = false := dec_nlt hqE2
                      go_wp2
                      go_quiet (fail)
                      go_wp2
                      go_quiet (fail)
                      go_wp2
                      go_roundw
                      case rel => exact ⟨t + 1, hlt3, by go_num, HRz.out.trans (below_drewN _ _ _)⟩
                      case measure => exact meas_lt hlt3
            · have ht2 : t = k2 := Nat.le_antisymm ht (Nat.le_of_not_lt hlt3)
              go_wp2_with fail
              have hbe := HB7.out.trans (HRx.out.mono HB7.out.size)
              refine (awake_any _).mono ?_
              rintro e w9 ⟨rfl, hb9⟩
              go_wp2_with fail
              go_ret
              exact ⟨rfl, hbe.trans (hb9.mono hbe.size)⟩

set_option maxRecDepth 20000 in
set_option maxHeartbeats 1600000 in
theorem walkTearing (n : Int) (A : Option Addr) (m c : Nat) (Ak : Option Addr) (nk ck : Nat) (w : World) (hn : (Lit.int .i64 n).wf = true) (hO : ∃ os, OpsIn w A m os ∧ m ≤ maxLen) (hK : ∃ ks, PairsF noF w Ak nk ks ∧ (Ak = none → ck = 0) ∧ nk ≤ maxLen) :
    Calls Try.prog 5 #[.int .i64 n, .slice A m c, .slice Ak nk ck] w (Yes w) := by
  obtain ⟨os, hO, _⟩ := hO
  obtain ⟨ks, hK, _, _⟩ := hK
  have hs := small_any A m c os w hO
  by_cases h1 : n < 1
  · have h1' : decide (n < 1) = true := by simpa using h1
    clear h1 hO hK hn
    go_enter Try.func5, Try.ntmps5
    go_wp2_with fail
    refine (awake_any _).mono ?_
    rintro e w2 ⟨rfl, hb2⟩
    go_wp2_with fail
    go_ret
    exact ⟨rfl, hb2⟩
  · have h1' : decide (n < 1) = false := by simpa using h1
    by_cases h60 : (60 : Int) < n
    · have h60' : decide ((60 : Int) < n) = true := by simpa using h60
      clear h1 h60 hO hK hn
      go_enter Try.func5, Try.ntmps5
      go_wp2_with fail
      refine (awake_any _).mono ?_
      rintro e w2 ⟨rfl, hb2⟩
      go_wp2_with fail
      go_ret
      exact ⟨rfl, hb2⟩
    · by_cases h80 : (80 : Int) < nk
      · have h80' : decide ((80 : Int) < nk) = true := by simpa using h80
        have h60' : decide ((60 : Int) < n) = false := by simpa using h60
        clear h1 h60 h80 hO hK hn
        go_enter Try.func5, Try.ntmps5
        go_wp2_with fail
        refine hs.mono ?_
        rintro e w' ⟨b, rfl, hb, rfl⟩
        cases b
        · clear hb
          go_wp2_with fail
          refine (awake_any _).mono ?_
          rintro e w2 ⟨rfl, hb2⟩
          go_wp2_with fail
          go_ret
          exact ⟨rfl, hb2⟩
        · clear hb
          go_wp2_with fail
          refine (awake_any _).mono ?_
          rintro e w2 ⟨rfl, hb2⟩
          go_wp2_with fail
          go_ret
          exact ⟨rfl, hb2⟩
      · obtain ⟨k, rfl⟩ : ∃ k : Nat, n = k := ⟨n.toNat, by omega⟩
        exact tearing_main k (by omega) (by omega) A m c os Ak nk ck ks w hO hK (by omega) hs

end Go.Proofs.Ytbeapaliadahnaa
