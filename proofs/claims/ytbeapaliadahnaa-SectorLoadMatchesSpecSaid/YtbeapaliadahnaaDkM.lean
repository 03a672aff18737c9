/-
  The walk of SectorLoadMatchesSpec.
-/
import Derived.Test.YtbeapaliadahnaaDr1
import Derived.Test.YtbeapaliadahnaaDkO
namespace Go.Proofs.Ytbeapaliadahnaa
open Go.RowKit

theorem image_L {w : World} {F : Nat → Prop} {a n L : Nat} {S : Dsk} (h : PD w F a n S) (hL : L = 64 * n) : Calls Try.prog 30 #[.pointer (some ⟨a, 0, none⟩)] w fun e w' =>
    ∃ g, e = .returned (.slice (some ⟨g, 0, none⟩) L L) ∧ w.heap.size ≤ g ∧ w'.heap[g]? = some (.cells ((flat n S.st).map bv).toArray 5 (0, 0)) ∧ Below w.heap.size w w' := by rw [hL]; exact image_any h
theorem dirty_none {w : World} {F : Nat → Prop} {a n : Nat} {S : Dsk} (h : PD w F a n S) (hc : ∀ i, S.ca i = none) : Calls Try.prog 31 #[.pointer (some ⟨a, 0, none⟩)] w fun e w' => (∃ A c, e = .returned (.slice A 0 c)) ∧ Below w.heap.size w w' := by
  refine (dirty_any h).mono ?_
  rintro e w' ⟨v, rfl, ho, hb⟩
  have hd : dirtyZ n S.ca = [] := by simp [dirtyZ, dirty, hc]
  rw [hd] at ho
  obtain ⟨A, c, rfl, _⟩ := Has.of_own ho
  exact ⟨⟨A, c, rfl⟩, hb⟩
theorem own_cut {w : World} {base e n : Nat} {A : Option Addr} {c : Nat} {xs : List Value} (h : w.ownsRow base e 1 (.slice A n c) n xs) : w.ownsRow base e 1 (.slice A 0 c) 0 [] := by
  rcases h.2 with ⟨he, hn⟩ | ⟨g, cap, cur, he, hb, hr, _, hc, hs, _⟩
  · injection he with h1 h2 h3
    subst h1 h3
    exact ⟨rfl, .inl ⟨rfl, rfl⟩⟩
  · injection he with h1 h2 h3
    subst h1 h3
    exact ⟨rfl, .inr ⟨g, _, cur, rfl, hb, hr, Nat.zero_le _, hc, hs, by simp⟩⟩
theorem q_facts {m q : Nat} (hq : q = m / 64) (hm : m ≤ 10000) (h0 : m % 64 = 0) (hp : possB (q : Int) = true) : m = 64 * q ∧ 1 ≤ q ∧ q ≤ 4096 ∧ Int.tdiv (m : Int) 64 = (q : Int) ∧ wrap64 (q : Int) = (q : Int) ∧ (q : Int) ≤ 4096 := by
  simp [possB] at hp
  refine ⟨by omega, by omega, by omega, ?_, by unfold wrap64; omega, by omega⟩
  rw [Int.tdiv_eq_ediv_of_nonneg (by omega)]
  omega
def sLen : Value → Nat
  | .slice _ n _ => n
  | _ => 0
theorem byte_of (m : Nat) : (Value.int .u8 ((m : Int) % 256)) = bv (UInt8.ofNat m) := by
  rw [bv_eq, UInt8.toNat_ofNat']
  congr 1

set_option maxRecDepth 20000 in
set_option maxHeartbeats 3200000 in
theorem walkLoad (A : Option Addr) (len cap : Nat) (n : Int) (W : World) (h8 : ∃ l, Arg8 W A len cap l) (hn : (Lit.int .i64 n).wf = true) :
    Calls Try.prog 4 #[.slice A len cap, .int .i64 n] W (Yes W) := by
  obtain ⟨l, hl⟩ := h8
  have hnb := bounds_i64 hn
  clear hn
  by_cases hbig : (10000 : Int) < len
  · go_enter Try.func4, Try.ntmps4
    go_wp2_with (go_at_call 9; refine (awake_any _).mono ?_; rintro e w2 ⟨rfl, hb⟩)
    go_ret
    exact ⟨rfl, hb⟩
  · have hlen : len ≤ 10000 := by omega
    have hown0 := ownBytes_any A len cap W.heap.size l W hl.1 hl.2.2.2 (by omega) (Nat.le_refl _)
    obtain ⟨i5, hi5, hz0, hz1, hz2⟩ := info_parts infoU8
    have HL := Lib.hid hl
    clear hl
    by_cases hin : 0 ≤ n ∧ n ≤ 100
    · obtain ⟨N, rfl⟩ : ∃ N : Nat, n = N := ⟨n.toNat, by omega⟩
      have hN : N ≤ 100 := by omega
      have hNi : (N : Int) ≤ 100 := by omega
      have hg1 : decide ((0 : Int) ≤ (N : Int)) = true := by simp
      have hg2 : decide ((N : Int) ≤ 100) = true := by simp; omega
      obtain ⟨M, hM⟩ : ∃ M, M = N * 64 := ⟨_, rfl⟩
      have hwM : wrap64 ((N : Int) * 64) = (M : Int) := by unfold wrap64; omega
      have hwM' : (N : Int) * 64 = (M : Int) := by omega
      have hMb : (M : Int) ≤ 6400 := by omega
      clear hM hnb hin
      go_enter Try.func4, Try.ntmps4
      go_wp2_with fail
      refine hown0.mono ?_
      rintro e w1 ⟨⟨v, rfl, hown1⟩, hb1⟩
      obtain ⟨A1, c1, ev, hhas1, hmc1⟩ := Has.of_own hown1
      subst ev
      have hcut := own_cut hown1
      have hcn1 := of_own_none hown1
      have hA1 := HL.out.1.below hb1
      have h63 : Hid (0 + len ≤ maxLen) := by show _ ≤ _; unfold maxLen; omega
      have hby : Hid ((0 + len) * 1 ≤ 140737488355328) := by show _ ≤ _; omega
      have hc0 : (0 : Int) ≤ (c1 : Int) := by omega
      clear hown1 hhas1
      go_wp2_with (at_builtin; refine wpList_app_has _ rfl _ _ 32 (by exact rfl) W.heap.size 5 i5 (.int .u8 0) 1 tyBs hi5 hz0 hz1 hz2 rfl _ 0 _ (by exact rfl) hcut A len cap _ _ (by exact rfl) HL.out.2.2.2 hA1 (one_bytes l) h63.out hby.out hb1 (Nat.le_refl _) ?_; intro v2 w2 hown2 hb2 hgr2)
      rw [Nat.zero_add, List.nil_append] at hown2
      clear hcut hA1 hgr2 hcn1 hmc1
      try go_frame
      go_loopw [5] (fun v wr => ∃ (m : Nat) (xs : List UInt8), m ≤ 10000 ∧ wr.ownsRow W.heap.size 5 1 v m (xs.map bv) ∧ Below W.heap.size W wr) (fun v _ => M - sLen v)
      case atStart => exact ⟨len, l, hlen, hown2, hb2⟩
      case round =>
        obtain ⟨m, xs, hm, hown, hb⟩ := hrel
        obtain ⟨A2, c2, ev2, _, _⟩ := Has.of_own hown
        by_cases hlt : (m : Int) < (M : Int)
        · subst ev2
          have hd : decide ((m : Int) < (M : Int)) = true := by simpa using hlt
          have hbm := Lib.hid (byte_of m)
          go_wp2_with (at_builtin; refine wpList_app_one _ rfl _ _ 32 (by exact rfl) W.heap.size 5 i5 (.int .u8 0) 1 tyBs hi5 hz0 hz1 hz2 rfl _ (by exact rfl) _ _ _ (by exact rfl) hown (by exact rfl) (by unfold maxLen; omega) (by omega) hb (Nat.le_refl _) ?_; intro v' w' hown' hb' _)
          go_roundw
          case rel => exact ⟨m + 1, xs ++ [UInt8.ofNat m], by omega, by rw [List.map_append]; rw [hbm.out] at hown'; exact hown', hb'⟩
          case measure =>
            obtain ⟨A3, c3, ev3, _, _⟩ := Has.of_own hown'
            subst ev3
            simp [sLen]
            omega
        · have hd : decide ((m : Int) < (M : Int)) = false := by simpa using hlt
          clear ev2
          obtain ⟨A', c', ev, hhas, hmc⟩ := Has.of_own hown
          subst ev
          have hxl : Hid (xs.length = m) := by show _ = _; have := hhas.1; simpa using this
          have hcn := of_own_none hown
          have HH := Lib.hid hhas
          have HC := Lib.hid hmc
          have HB := Lib.hid hb
          clear hown hhas hmc hb
          obtain ⟨q, hq⟩ : ∃ q : Nat, q = m / 64 := ⟨_, rfl⟩
          by_cases hgood : m % 64 = 0 ∧ possB (q : Int) = true
          · obtain ⟨hm0, hpq⟩ := hgood
            obtain ⟨hmq, hq1, hq4, htd, hw3, hqb⟩ := q_facts hq hm hm0 hpq
            have hld := load_yes A' m c' wr.heap.size q xs wr HH.out (Nat.le_refl _) hmq hq1 hq4
            have HQ := Lib.hid (And.intro hmq (And.intro hq1 hq4))
            clear hm0 hpq hmq hq1 hq4 hq
            go_wp2_with fail
            refine hld.mono ?_
            rintro e w5 ⟨a, rfl, ha, hpd5, hb5⟩
            have hhas5 := HH.out.below hb5
            have hrl := refLoad_yes A' m c' wr.heap.size q xs w5 hhas5 hb5.size HQ.out.1 HQ.out.2.1 HQ.out.2.2 HC.out
            go_wp2_with fail
            refine hrl.mono ?_
            rintro e w6 ⟨a2, rfl, hb6⟩
            have hpd6 := hpd5.below hb6
            go_wp2_with fail
            refine (sectors_any hpd6).mono ?_
            rintro e w' ⟨rfl, rfl⟩
            go_wp2_with fail
            refine (image_L hpd6 HQ.out.1).mono ?_
            rintro e w7 ⟨gi, rfl, hgi, hrowi, hb7⟩
            have hfl : flat q (Dsk.fresh (stOf xs)).st = xs := flat_stOf (by rw [hxl.out]; exact HQ.out.1)
            rw [hfl] at hrowi
            have hpd7 := hpd6.below hb7
            have hhas7 := ((hhas5.below' (hb6.mono hb5.size) (Nat.le_refl _)).below' (hb7.mono (Nat.le_trans hb5.size hb6.size)) (Nat.le_refl _)).more (show wr.heap.size ≤ w7.heap.size from Nat.le_trans hb5.size (Nat.le_trans hb6.size hb7.size))
            have hby := bytes_any (some ⟨gi, 0, none⟩) A' m m m c' _ xs xs w7 (has_of_row hrowi hxl.out) hhas7
            rw [show eqL xs xs = true by simp [eqL]] at hby
            have hdn := dirty_none hpd7 fun _ => rfl
            have hb17 : Below W.heap.size W w7 := ((HB.out.trans (hb5.mono HB.out.size)).trans (hb6.mono (Nat.le_trans HB.out.size hb5.size))).trans (hb7.mono (Nat.le_trans HB.out.size (Nat.le_trans hb5.size hb6.size)))
            clear hhas5 hhas7 hpd5 hpd6 hb5 hb6 hb7 hrowi hld hrl hfl
            go_wp2_with fail
            refine hby.mono ?_
            rintro e w' ⟨rfl, rfl⟩
            go_wp2_with fail
            refine hdn.mono ?_
            rintro e w8 ⟨⟨Ad, cd, rfl⟩, hb8⟩
            have hoff := off_any (hpd7.below hb8)
            rw [show (Dsk.fresh (stOf xs)).off = false from rfl] at hoff
            go_wp2_with fail
            refine hoff.mono ?_
            rintro e w' ⟨rfl, rfl⟩
            go_wp2_with fail
            refine (awake_any _).mono ?_
            rintro e w9 ⟨rfl, hb9⟩
            have hb18 := hb17.trans (hb8.mono hb17.size)
            go_wp2_with fail
            go_ret
            exact ⟨rfl, hb18.trans (hb9.mono hb18.size)⟩
          · have hbad : m % 64 ≠ 0 ∨ possB ((m / 64 : Nat) : Int) = false := by
              rw [← hq]
              by_cases h0 : m % 64 = 0
              · right; simpa [h0] using hgood
              · exact .inl h0
            have hm6 : m ≤ 1000000 := Nat.le_trans hm (by decide)
            have hld := load_no A' m c' wr hm6 hbad
            have hrl := refLoad_no A' m c' wr hm6 hbad
            clear hbad hgood hq hm6
            go_wp2_with fail
            refine hld.mono ?_
            rintro e w' ⟨rfl, rfl⟩
            go_wp2_with fail
            refine hrl.mono ?_
            rintro e w' ⟨rfl, rfl⟩
            go_wp2_with fail
            refine (awake_any _).mono ?_
            rintro e w9 ⟨rfl, hb9⟩
            go_wp2_with fail
            go_ret
            exact ⟨rfl, HB.out.trans (hb9.mono HB.out.size)⟩
    · have hg : (decide ((0 : Int) ≤ n) && decide (n ≤ 100)) = false := by
        by_cases h0 : 0 ≤ n <;> by_cases h1 : n ≤ 100 <;> simp [h0, h1]
        exact hin ⟨h0, h1⟩
      by_cases h0 : 0 ≤ n
      · have h1 : ¬ n ≤ 100 := fun h => hin ⟨h0, h⟩
        have hg1 : decide (0 ≤ n) = true := by simpa using h0
        have hg2 : decide (n ≤ 100) = false := by simpa using h1
        clear hin hg hnb h0 h1
        go_enter Try.func4, Try.ntmps4
        go_wp2_with fail
        refine hown0.mono ?_
        rintro e wr ⟨⟨v, rfl, hown⟩, hb⟩
        obtain ⟨m, em⟩ : ∃ m, m = len := ⟨_, rfl⟩
        rw [← em] at hown
        have hm : m ≤ 10000 := by omega
        clear em
        generalize l = xs at hown
        obtain ⟨A', c', ev, hhas, hmc⟩ := Has.of_own hown
        subst ev
        have hxl : Hid (xs.length = m) := by show _ = _; have := hhas.1; simpa using this
        have hcn := of_own_none hown
        have HH := Lib.hid hhas
        have HC := Lib.hid hmc
        have HB := Lib.hid hb
        clear hown hhas hmc hb
        obtain ⟨q, hq⟩ : ∃ q : Nat, q = m / 64 := ⟨_, rfl⟩
        by_cases hgood : m % 64 = 0 ∧ possB (q : Int) = true
        · obtain ⟨hm0, hpq⟩ := hgood
          obtain ⟨hmq, hq1, hq4, htd, hw3, hqb⟩ := q_facts hq hm hm0 hpq
          have hld := load_yes A' m c' wr.heap.size q xs wr HH.out (Nat.le_refl _) hmq hq1 hq4
          have HQ := Lib.hid (And.intro hmq (And.intro hq1 hq4))
          clear hm0 hpq hmq hq1 hq4 hq
          go_wp2_with fail
          refine hld.mono ?_
          rintro e w5 ⟨a, rfl, ha, hpd5, hb5⟩
          have hhas5 := HH.out.below hb5
          have hrl := refLoad_yes A' m c' wr.heap.size q xs w5 hhas5 hb5.size HQ.out.1 HQ.out.2.1 HQ.out.2.2 HC.out
          go_wp2_with fail
          refine hrl.mono ?_
          rintro e w6 ⟨a2, rfl, hb6⟩
          have hpd6 := hpd5.below hb6
          go_wp2_with fail
          refine (sectors_any hpd6).mono ?_
          rintro e w' ⟨rfl, rfl⟩
          go_wp2_with fail
          refine (image_L hpd6 HQ.out.1).mono ?_
          rintro e w7 ⟨gi, rfl, hgi, hrowi, hb7⟩
          have hfl : flat q (Dsk.fresh (stOf xs)).st = xs := flat_stOf (by rw [hxl.out]; exact HQ.out.1)
          rw [hfl] at hrowi
          have hpd7 := hpd6.below hb7
          have hhas7 := ((hhas5.below' (hb6.mono hb5.size) (Nat.le_refl _)).below' (hb7.mono (Nat.le_trans hb5.size hb6.size)) (Nat.le_refl _)).more (show wr.heap.size ≤ w7.heap.size from Nat.le_trans hb5.size (Nat.le_trans hb6.size hb7.size))
          have hby := bytes_any (some ⟨gi, 0, none⟩) A' m m m c' _ xs xs w7 (has_of_row hrowi hxl.out) hhas7
          rw [show eqL xs xs = true by simp [eqL]] at hby
          have hdn := dirty_none hpd7 fun _ => rfl
          have hb17 : Below W.heap.size W w7 := ((HB.out.trans (hb5.mono HB.out.size)).trans (hb6.mono (Nat.le_trans HB.out.size hb5.size))).trans (hb7.mono (Nat.le_trans HB.out.size (Nat.le_trans hb5.size hb6.size)))
          clear hhas5 hhas7 hpd5 hpd6 hb5 hb6 hb7 hrowi hld hrl hfl
          go_wp2_with fail
          refine hby.mono ?_
          rintro e w' ⟨rfl, rfl⟩
          go_wp2_with fail
          refine hdn.mono ?_
          rintro e w8 ⟨⟨Ad, cd, rfl⟩, hb8⟩
          have hoff := off_any (hpd7.below hb8)
          rw [show (Dsk.fresh (stOf xs)).off = false from rfl] at hoff
          go_wp2_with fail
          refine hoff.mono ?_
          rintro e w' ⟨rfl, rfl⟩
          go_wp2_with fail
          refine (awake_any _).mono ?_
          rintro e w9 ⟨rfl, hb9⟩
          have hb18 := hb17.trans (hb8.mono hb17.size)
          go_wp2_with fail
          go_ret
          exact ⟨rfl, hb18.trans (hb9.mono hb18.size)⟩
        · have hbad : m % 64 ≠ 0 ∨ possB ((m / 64 : Nat) : Int) = false := by
            rw [← hq]
            by_cases h0 : m % 64 = 0
            · right; simpa [h0] using hgood
            · exact .inl h0
          have hm6 : m ≤ 1000000 := Nat.le_trans hm (by decide)
          have hld := load_no A' m c' wr hm6 hbad
          have hrl := refLoad_no A' m c' wr hm6 hbad
          clear hbad hgood hq hm6
          go_wp2_with fail
          refine hld.mono ?_
          rintro e w' ⟨rfl, rfl⟩
          go_wp2_with fail
          refine hrl.mono ?_
          rintro e w' ⟨rfl, rfl⟩
          go_wp2_with fail
          refine (awake_any _).mono ?_
          rintro e w9 ⟨rfl, hb9⟩
          go_wp2_with fail
          go_ret
          exact ⟨rfl, HB.out.trans (hb9.mono HB.out.size)⟩
      · have hg1 : decide (0 ≤ n) = false := by simpa using h0
        clear hin hg hnb h0
        go_enter Try.func4, Try.ntmps4
        go_wp2_with fail
        refine hown0.mono ?_
        rintro e wr ⟨⟨v, rfl, hown⟩, hb⟩
        obtain ⟨m, em⟩ : ∃ m, m = len := ⟨_, rfl⟩
        rw [← em] at hown
        have hm : m ≤ 10000 := by omega
        clear em
        generalize l = xs at hown
        obtain ⟨A', c', ev, hhas, hmc⟩ := Has.of_own hown
        subst ev
        have hxl : Hid (xs.length = m) := by show _ = _; have := hhas.1; simpa using this
        have hcn := of_own_none hown
        have HH := Lib.hid hhas
        have HC := Lib.hid hmc
        have HB := Lib.hid hb
        clear hown hhas hmc hb
        obtain ⟨q, hq⟩ : ∃ q : Nat, q = m / 64 := ⟨_, rfl⟩
        by_cases hgood : m % 64 = 0 ∧ possB (q : Int) = true
        · obtain ⟨hm0, hpq⟩ := hgood
          obtain ⟨hmq, hq1, hq4, htd, hw3, hqb⟩ := q_facts hq hm hm0 hpq
          have hld := load_yes A' m c' wr.heap.size q xs wr HH.out (Nat.le_refl _) hmq hq1 hq4
          have HQ := Lib.hid (And.intro hmq (And.intro hq1 hq4))
          clear hm0 hpq hmq hq1 hq4 hq
          go_wp2_with fail
          refine hld.mono ?_
          rintro e w5 ⟨a, rfl, ha, hpd5, hb5⟩
          have hhas5 := HH.out.below hb5
          have hrl := refLoad_yes A' m c' wr.heap.size q xs w5 hhas5 hb5.size HQ.out.1 HQ.out.2.1 HQ.out.2.2 HC.out
          go_wp2_with fail
          refine hrl.mono ?_
          rintro e w6 ⟨a2, rfl, hb6⟩
          have hpd6 := hpd5.below hb6
          go_wp2_with fail
          refine (sectors_any hpd6).mono ?_
          rintro e w' ⟨rfl, rfl⟩
          go_wp2_with fail
          refine (image_L hpd6 HQ.out.1).mono ?_
          rintro e w7 ⟨gi, rfl, hgi, hrowi, hb7⟩
          have hfl : flat q (Dsk.fresh (stOf xs)).st = xs := flat_stOf (by rw [hxl.out]; exact HQ.out.1)
          rw [hfl] at hrowi
          have hpd7 := hpd6.below hb7
          have hhas7 := ((hhas5.below' (hb6.mono hb5.size) (Nat.le_refl _)).below' (hb7.mono (Nat.le_trans hb5.size hb6.size)) (Nat.le_refl _)).more (show wr.heap.size ≤ w7.heap.size from Nat.le_trans hb5.size (Nat.le_trans hb6.size hb7.size))
          have hby := bytes_any (some ⟨gi, 0, none⟩) A' m m m c' _ xs xs w7 (has_of_row hrowi hxl.out) hhas7
          rw [show eqL xs xs = true by simp [eqL]] at hby
          have hdn := dirty_none hpd7 fun _ => rfl
          have hb17 : Below W.heap.size W w7 := ((HB.out.trans (hb5.mono HB.out.size)).trans (hb6.mono (Nat.le_trans HB.out.size hb5.size))).trans (hb7.mono (Nat.le_trans HB.out.size (Nat.le_trans hb5.size hb6.size)))
          clear hhas5 hhas7 hpd5 hpd6 hb5 hb6 hb7 hrowi hld hrl hfl
          go_wp2_with fail
          refine hby.mono ?_
          rintro e w' ⟨rfl, rfl⟩
          go_wp2_with fail
          refine hdn.mono ?_
          rintro e w8 ⟨⟨Ad, cd, rfl⟩, hb8⟩
          have hoff := off_any (hpd7.below hb8)
          rw [show (Dsk.fresh (stOf xs)).off = false from rfl] at hoff
          go_wp2_with fail
          refine hoff.mono ?_
          rintro e w' ⟨rfl, rfl⟩
          go_wp2_with fail
          refine (awake_any _).mono ?_
          rintro e w9 ⟨rfl, hb9⟩
          have hb18 := hb17.trans (hb8.mono hb17.size)
          go_wp2_with fail
          go_ret
          exact ⟨rfl, hb18.trans (hb9.mono hb18.size)⟩
        · have hbad : m % 64 ≠ 0 ∨ possB ((m / 64 : Nat) : Int) = false := by
            rw [← hq]
            by_cases h0 : m % 64 = 0
            · right; simpa [h0] using hgood
            · exact .inl h0
          have hm6 : m ≤ 1000000 := Nat.le_trans hm (by decide)
          have hld := load_no A' m c' wr hm6 hbad
          have hrl := refLoad_no A' m c' wr hm6 hbad
          clear hbad hgood hq hm6
          go_wp2_with fail
          refine hld.mono ?_
          rintro e w' ⟨rfl, rfl⟩
          go_wp2_with fail
          refine hrl.mono ?_
          rintro e w' ⟨rfl, rfl⟩
          go_wp2_with fail
          refine (awake_any _).mono ?_
          rintro e w9 ⟨rfl, hb9⟩
          go_wp2_with fail
          go_ret
          exact ⟨rfl, HB.out.trans (hb9.mono HB.out.size)⟩

end Go.Proofs.Ytbeapaliadahnaa
