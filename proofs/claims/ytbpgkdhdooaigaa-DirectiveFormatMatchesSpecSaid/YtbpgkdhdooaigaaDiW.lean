/-
  The walk of DirectiveBlanks: the call returns true.
-/
import Derived.Test.YtbpgkdhdooaigaaDiM
import Derived.Test.YtbpgkdhdooaigaaDiX
import Derived.Test.YtbpgkdhdooaigaaInZ
import Derived.Test.YtbpgkdhdooaigaaMod
import Derived.Deep.LoopGhost
namespace Go.Proofs.Ytbpgkdhdooaigaa
open Go.RowKit

/-- Strings that came in. -/
def InStr (w : World) (A : Option Addr) (n c : Nat) (PS : List ByteArray) : Prop := Has w w.heap.size A n (PS.map Value.string) ∧ n ≤ c ∧ c ≤ maxLen
/-- The constant strings around a part. -/
def padCells : Array Value := #[.string ⟨#[]⟩, .string ⟨#[32]⟩, .string ⟨#[9, 32]⟩, .string ⟨#[32, 59, 32]⟩]
theorem pad_cell (w : World) (kk : Nat) (h : kk < 4) : (w.alloc (.cells #[.string ⟨#[]⟩, .string ⟨#[32]⟩, .string ⟨#[9, 32]⟩, .string ⟨#[32, 59, 32]⟩] 9)).cell? ⟨w.heap.size, kk, none⟩ = some (.string (bs (padL kk))) := by
  rw [World.cell?_alloc_at _ _ _ _ rfl]
  have : kk = 0 ∨ kk = 1 ∨ kk = 2 ∨ kk = 3 := by omega
  rcases this with rfl | rfl | rfl | rfl <;> rfl
theorem drewN_belW {B : Nat} {w x : World} (h : Below B w x) (k : Nat) : Below B w (x.drewN k) := h.trans ⟨rfl, rfl, rfl, Nat.le_refl _, fun _ _ => rfl⟩
theorem byte_of {b c : UInt8} (h : b = c) : ((b.toNat : Int) == (c.toNat : Int)) = true := by rw [h]; simp

set_option maxRecDepth 20000 in
set_option maxHeartbeats 16000000 in
theorem walkDiB (A1 : Option Addr) (n1 c1 : Nat) (A2 : Option Addr) (n2 c2 : Nat) (w : World) (hI1 : ∃ PS, InStr w A1 n1 c1 PS) (hI2 : ∃ Z, InZ w w.heap.size A2 n2 c2 Z) :
    Calls Try.prog 6 #[.slice A1 n1 c1, .slice A2 n2 c2] w (Yes w) := by
  obtain ⟨PS, hP, hnc1, hcm1⟩ := hI1
  obtain ⟨Z, hZ⟩ := hI2
  by_cases hbig : 32 < n1
  · have hd : decide ((32 : Int) < (n1 : Int)) = true := decide_eq_true (by omega)
    clear hbig hP hZ
    go_enter Try.func6, Try.ntmps6
    go_wp2_with fail
    refine (awake18_any _).mono ?_
    rintro e w2 ⟨rfl, hb2⟩
    go_wp2
    go_ret
    exact ⟨rfl, hb2⟩
  · have hd : decide ((32 : Int) < (n1 : Int)) = false := decide_eq_false (by omega)
    have hn32 : n1 ≤ 32 := by omega
    have hn2m : n2 ≤ 9223372036854775807 := by have := hZ.le; have := hZ.room; unfold maxLen at this; omega
    have hn2c : n2 ≤ c2 := hZ.le
    have HP := Lib.hid hP
    have HPL := Lib.hid (show PS.length = n1 by simpa using hP.1)
    have HZ := Lib.hid hZ
    have HZL := Lib.hid hZ.len
    clear hbig hP hZ
    go_enter Try.func6, Try.ntmps6
    go_wp2
    go_loopw [5, 6, 7, 8, 9, 10] (fun p5 p6 i x8 x9 x10 wr => ∃ (k : Nat) (P V : ByteArray), k ≤ n1 ∧ i = .int .i64 k ∧ p5 = .string P ∧ p6 = .string V ∧ P.size ≤ k * 101 ∧ V.size ≤ k * 107 ∧ P.size ≤ V.size ∧ Hid (WS k (ls P) (ls V)) ∧ Hid (Below w.heap.size w wr)) (fun _ _ i _ _ _ _ => n1 - (intOf i).toNat)
    case atStart => exact ⟨0, _, _, Nat.zero_le _, rfl, rfl, rfl, Nat.le_refl _, Nat.le_refl _, Nat.le_refl _, Lib.hid WS.zero, Lib.hid (Below.refl _ _)⟩
    case round =>
      obtain ⟨k, P, V, hk, rfl, rfl, rfl, hPs, hVs, hPV, HW, HB⟩ := hrel
      have hkb : (k : Int) ≤ 32 := by omega
      have i0 : (0 : Int) ≤ (k : Int) := by omega
      by_cases hlt : k < n1
      · have i1 : (k : Int) < (n1 : Int) := by omega
        have hkl : k < PS.length := by rw [HPL.out]; exact hlt
        obtain ⟨b, off, rfl, hb, g0⟩ := (HP.out.below' HB.out (Nat.le_refl _)).at_ hlt
        rw [List.getElem_map] at g0
        obtain ⟨p, hp⟩ : ∃ p, p = PS[k] := ⟨_, rfl⟩
        rw [← hp] at g0
        clear hp hkl
        by_cases h100 : 100 < p.size
        · have t1 : decide ((100 : Int) < (p.size : Int)) = true := decide_eq_true (by omega)
          clear h100
          go_wp2_with fail
          refine (awake18_any _).mono ?_
          rintro e w2 ⟨rfl, hb2⟩
          have hbf := HB.out.trans (hb2.mono HB.out.size)
          clear hb2
          go_wp2
          go_ret
          exact ⟨rfl, hbf⟩
        · have t1 : decide ((100 : Int) < (p.size : Int)) = false := decide_eq_false (by omega)
          have hp100 : p.size ≤ 100 := by omega
          clear h100
          go_wp2
          obtain ⟨wo, rfl⟩ : ∃ wo : World, wo = wr := ⟨_, rfl⟩
          go_loopw [8] (fun t wr => ∃ (j : Nat), wr = wo ∧ j ≤ p.size ∧ t = .int .i64 j ∧ Hid (Free ((ls p).take j))) (fun t _ => p.size - (intOf t).toNat)
          case atStart => exact ⟨0, rfl, Nat.zero_le _, rfl, Lib.hid (fun c hc => by simp at hc)⟩
          case round =>
            obtain ⟨j, rfl, hj, rfl, HF⟩ := hrel
            have hjb : (j : Int) ≤ 100 := by omega
            by_cases hltj : j < p.size
            · by_cases h59 : p[j] = 59
              · have q1 : ((p[j].toNat : Int) == 59) = true := by rw [h59]; rfl
                clear h59
                go_wp2_with fail
                refine (awake18_any _).mono ?_
                rintro e w2 ⟨rfl, hb2⟩
                have hbf := HB.out.trans (hb2.mono HB.out.size)
                clear hb2
                go_wp2
                go_ret
                exact ⟨rfl, hbf⟩
              · have q1 : ((p[j].toNat : Int) == 59) = false := byte_u8 h59
                by_cases h34 : p[j] = 34
                · have q2 : ((p[j].toNat : Int) == 34) = true := by rw [h34]; rfl
                  clear h59 h34
                  go_wp2_with fail
                  refine (awake18_any _).mono ?_
                  rintro e w2 ⟨rfl, hb2⟩
                  have hbf := HB.out.trans (hb2.mono HB.out.size)
                  clear hb2
                  go_wp2
                  go_ret
                  exact ⟨rfl, hbf⟩
                · have q2 : ((p[j].toNat : Int) == 34) = false := byte_u8 h34
                  have HF2 := Lib.hid (free_take HF.out (ls_get p j hltj) h59 h34)
                  clear h59 h34
                  go_wp2
                  go_roundw
                  case rel => exact ⟨j + 1, by first | trivial | rfl, by omega, by go_num, HF2⟩
                  case measure => simp [intOf]; omega
            · obtain rfl : j = p.size := by omega
              rw [take_ls_all] at HF
              have hbr : b < wr.heap.size := Nat.lt_of_lt_of_le hb HB.out.size
              by_cases hz : n2 = 0
              · subst hz
                clear HZ HZL hn2c hn2m
                by_cases hk0 : k = 0
                · have hpad := pad_cell wr 0 (by omega)
                  obtain ⟨D, hD⟩ : ∃ D, D = bs (padL 0) := ⟨_, rfl⟩
                  rw [← hD] at hpad
                  have hDs : D.size ≤ 3 := by rw [hD, bs_size]; exact padL_len 0
                  have HD : Hid (ls D = padL 0) := by
                    show _ = _
                    rw [hD, ls_bs]
                  have hbA : Below wr.heap.size wr (wr.alloc (.cells #[.string ⟨#[]⟩, .string ⟨#[32]⟩, .string ⟨#[9, 32]⟩, .string ⟨#[32, 59, 32]⟩] 9)) := (Below.refl _ _).alloc (Nat.le_refl _) _
                  have gA : (wr.alloc (.cells #[.string ⟨#[]⟩, .string ⟨#[32]⟩, .string ⟨#[9, 32]⟩, .string ⟨#[32, 59, 32]⟩] 9)).cell? ⟨b, off + k, none⟩ = some (.string p) := (hbA.cell (p := ⟨b, off + k, none⟩) hbr).trans g0
                  have HBA := Lib.hid (HB.out.trans (hbA.mono HB.out.size))
                  clear hD hbA
                  have t1 : decide ((0 : Int) < (k : Int)) = false := decide_eq_false (by omega)
                  have m1 : ¬ 0 < k := by omega
                  have s1 : ¬ 9223372036854775807 < P.size + p.size := by omega
                  have s2 : ¬ 9223372036854775807 < V.size + D.size := by omega
                  have s3 : ¬ 9223372036854775807 < V.size + D.size + p.size := by omega
                  have s4 : ¬ 9223372036854775807 < (V ++ D).size + p.size := by rw [ByteArray.size_append]; omega
                  have s5 : ¬ 9223372036854775807 < V.size + D.size + p.size + D.size := by omega
                  have s6 : ¬ 9223372036854775807 < (V ++ D ++ p).size + D.size := by rw [ByteArray.size_append, ByteArray.size_append]; omega
                  have HN : Hid (WS (k + 1) (ls (P ++ p)) (ls (V ++ D ++ p ++ D))) := by
                    rw [ls_append, ls_append, ls_append, ls_append, HD.out]
                    have h := HW.out
                    rw [hk0] at h ⊢
                    exact Lib.hid (h.first HF.out 0)
                  have hz1 : (P ++ p).size ≤ (k + 1) * 101 := by rw [ByteArray.size_append]; omega
                  have hz2 : (V ++ D ++ p ++ D).size ≤ (k + 1) * 107 := by rw [ByteArray.size_append, ByteArray.size_append, ByteArray.size_append]; omega
                  have hz3 : (P ++ p).size ≤ (V ++ D ++ p ++ D).size := by rw [ByteArray.size_append, ByteArray.size_append, ByteArray.size_append, ByteArray.size_append]; omega
                  have HZ1 := Lib.hid (And.intro hz1 (And.intro hz2 hz3))
                  clear hz1 hz2 hz3 hk0
                  go_wp2
                  go_quiet (fail)
                  go_wp2
                  go_roundw
                  case rel => exact ⟨k + 1, _, _, by omega, by go_num, rfl, rfl, HZ1.out.1, HZ1.out.2.1, HZ1.out.2.2, HN, Lib.hid (drewN_belW HBA.out _)⟩
                  case measure => simp [intOf]; omega
                · have hpad := pad_cell wr 0 (by omega)
                  obtain ⟨D, hD⟩ : ∃ D, D = bs (padL 0) := ⟨_, rfl⟩
                  rw [← hD] at hpad
                  have hDs : D.size ≤ 3 := by rw [hD, bs_size]; exact padL_len 0
                  have HD : Hid (ls D = padL 0) := by
                    show _ = _
                    rw [hD, ls_bs]
                  have hbA : Below wr.heap.size wr (wr.alloc (.cells #[.string ⟨#[]⟩, .string ⟨#[32]⟩, .string ⟨#[9, 32]⟩, .string ⟨#[32, 59, 32]⟩] 9)) := (Below.refl _ _).alloc (Nat.le_refl _) _
                  have gA : (wr.alloc (.cells #[.string ⟨#[]⟩, .string ⟨#[32]⟩, .string ⟨#[9, 32]⟩, .string ⟨#[32, 59, 32]⟩] 9)).cell? ⟨b, off + k, none⟩ = some (.string p) := (hbA.cell (p := ⟨b, off + k, none⟩) hbr).trans g0
                  have HBA := Lib.hid (HB.out.trans (hbA.mono HB.out.size))
                  clear hD hbA
                  have t1 : decide ((0 : Int) < (k : Int)) = true := decide_eq_true (by omega)
                  have m1 : 0 < k := by omega
                  have z1 : (⟨#[59]⟩ : ByteArray).size = 1 := rfl
                  have s1 : ¬ 9223372036854775807 < P.size + 1 := by omega
                  have s1b : ¬ 9223372036854775807 < P.size + (⟨#[59]⟩ : ByteArray).size := by rw [z1]; omega
                  have s1c : ¬ 9223372036854775807 < V.size + 1 := by omega
                  have s1d : ¬ 9223372036854775807 < V.size + (⟨#[59]⟩ : ByteArray).size := by rw [z1]; omega
                  have s1e : ¬ 9223372036854775807 < P.size + 1 + p.size := by omega
                  have s1f : ¬ 9223372036854775807 < (P ++ (⟨#[59]⟩ : ByteArray)).size + p.size := by rw [ByteArray.size_append, z1]; omega
                  have s2 : ¬ 9223372036854775807 < V.size + 1 + D.size := by omega
                  have s2b : ¬ 9223372036854775807 < (V ++ (⟨#[59]⟩ : ByteArray)).size + D.size := by rw [ByteArray.size_append, z1]; omega
                  have s3 : ¬ 9223372036854775807 < V.size + 1 + D.size + p.size := by omega
                  have s4 : ¬ 9223372036854775807 < (V ++ (⟨#[59]⟩ : ByteArray) ++ D).size + p.size := by rw [ByteArray.size_append, ByteArray.size_append, z1]; omega
                  have s5 : ¬ 9223372036854775807 < V.size + 1 + D.size + p.size + D.size := by omega
                  have s6 : ¬ 9223372036854775807 < (V ++ (⟨#[59]⟩ : ByteArray) ++ D ++ p).size + D.size := by rw [ByteArray.size_append, ByteArray.size_append, ByteArray.size_append, z1]; omega
                  have HN : Hid (WS (k + 1) (ls (P ++ ⟨#[59]⟩ ++ p)) (ls (V ++ ⟨#[59]⟩ ++ D ++ p ++ D))) := by
                    rw [ls_append, ls_append, ls_append, ls_append, ls_append, ls_append, HD.out, show ls ⟨#[59]⟩ = [59] from rfl]
                    exact Lib.hid (HW.out.next m1 HF.out 0)
                  have hz1 : (P ++ ⟨#[59]⟩ ++ p).size ≤ (k + 1) * 101 := by rw [ByteArray.size_append, ByteArray.size_append, z1]; omega
                  have hz2 : (V ++ ⟨#[59]⟩ ++ D ++ p ++ D).size ≤ (k + 1) * 107 := by rw [ByteArray.size_append, ByteArray.size_append, ByteArray.size_append, ByteArray.size_append, z1]; omega
                  have hz3 : (P ++ ⟨#[59]⟩ ++ p).size ≤ (V ++ ⟨#[59]⟩ ++ D ++ p ++ D).size := by rw [ByteArray.size_append, ByteArray.size_append, ByteArray.size_append, ByteArray.size_append, ByteArray.size_append, ByteArray.size_append, z1]; omega
                  have HZ1 := Lib.hid (And.intro hz1 (And.intro hz2 hz3))
                  clear hz1 hz2 hz3 hk0 z1
                  go_wp2
                  go_quiet (fail)
                  go_wp2
                  go_roundw
                  case rel => exact ⟨k + 1, _, _, by omega, by go_num, rfl, rfl, HZ1.out.1, HZ1.out.2.1, HZ1.out.2.2, HN, Lib.hid (drewN_belW HBA.out _)⟩
                  case measure => simp [intOf]; omega
              · have u1 : decide ((0 : Int) < (n2 : Int)) = true := decide_eq_true (by omega)
                have u2 : 0 < n2 := by omega
                have u3 : ((n2 : Int) == 0) = false := by simp; omega
                obtain ⟨q, hq⟩ : ∃ q, q = k % n2 := ⟨_, rfl⟩
                have hq2 : q < n2 := by rw [hq]; exact Nat.mod_lt _ u2
                have hrem : Int.tmod (k : Int) (n2 : Int) = (q : Int) := by rw [Int.tmod_eq_emod_of_nonneg i0, hq]; omega
                have hqb : (q : Int) ≤ 32 := by have := Nat.mod_le k n2; omega
                have y0 : (0 : Int) ≤ (q : Int) := by omega
                have y1 : (q : Int) < (n2 : Int) := by omega
                obtain ⟨b2, off2, rfl, hb2, g3⟩ := (HZ.out.has.below' HB.out (Nat.le_refl _)).at_ hq2
                rw [List.getElem_map] at g3
                have hwz := HZ.out.wf _ (List.getElem_mem (show q < Z.length by rw [← HZL.out]; exact hq2))
                generalize Z[q]'(by rw [← HZL.out]; exact hq2) = z at *
                have cm := fun W => mod_any z 4 (by decide) (by decide) hwz.1 hwz.2 W
                obtain ⟨kk, hkk⟩ : ∃ kk : Nat, z % 4 = (kk : Int) := ⟨(z % 4).toNat, by omega⟩
                have hkk4 : kk < 4 := by omega
                rw [hkk] at cm
                clear hz hq hq2 hwz hkk
                by_cases hk0 : k = 0
                · have hpad := pad_cell wr kk (by omega)
                  obtain ⟨D, hD⟩ : ∃ D, D = bs (padL kk) := ⟨_, rfl⟩
                  rw [← hD] at hpad
                  have hDs : D.size ≤ 3 := by rw [hD, bs_size]; exact padL_len kk
                  have HD : Hid (ls D = padL kk) := by
                    show _ = _
                    rw [hD, ls_bs]
                  have hbA : Below wr.heap.size wr (wr.alloc (.cells #[.string ⟨#[]⟩, .string ⟨#[32]⟩, .string ⟨#[9, 32]⟩, .string ⟨#[32, 59, 32]⟩] 9)) := (Below.refl _ _).alloc (Nat.le_refl _) _
                  have gA : (wr.alloc (.cells #[.string ⟨#[]⟩, .string ⟨#[32]⟩, .string ⟨#[9, 32]⟩, .string ⟨#[32, 59, 32]⟩] 9)).cell? ⟨b, off + k, none⟩ = some (.string p) := (hbA.cell (p := ⟨b, off + k, none⟩) hbr).trans g0
                  have HBA := Lib.hid (HB.out.trans (hbA.mono HB.out.size))
                  have j0 : (0 : Int) ≤ (kk : Int) := by omega
                  have j1 : (kk : Int) < 4 := by omega
                  clear hD hbA
                  have t1 : decide ((0 : Int) < (k : Int)) = false := decide_eq_false (by omega)
                  have m1 : ¬ 0 < k := by omega
                  have s1 : ¬ 9223372036854775807 < P.size + p.size := by omega
                  have s2 : ¬ 9223372036854775807 < V.size + D.size := by omega
                  have s3 : ¬ 9223372036854775807 < V.size + D.size + p.size := by omega
                  have s4 : ¬ 9223372036854775807 < (V ++ D).size + p.size := by rw [ByteArray.size_append]; omega
                  have s5 : ¬ 9223372036854775807 < V.size + D.size + p.size + D.size := by omega
                  have s6 : ¬ 9223372036854775807 < (V ++ D ++ p).size + D.size := by rw [ByteArray.size_append, ByteArray.size_append]; omega
                  have HN : Hid (WS (k + 1) (ls (P ++ p)) (ls (V ++ D ++ p ++ D))) := by
                    rw [ls_append, ls_append, ls_append, ls_append, HD.out]
                    have h := HW.out
                    rw [hk0] at h ⊢
                    exact Lib.hid (h.first HF.out kk)
                  have hz1 : (P ++ p).size ≤ (k + 1) * 101 := by rw [ByteArray.size_append]; omega
                  have hz2 : (V ++ D ++ p ++ D).size ≤ (k + 1) * 107 := by rw [ByteArray.size_append, ByteArray.size_append, ByteArray.size_append]; omega
                  have hz3 : (P ++ p).size ≤ (V ++ D ++ p ++ D).size := by rw [ByteArray.size_append, ByteArray.size_append, ByteArray.size_append, ByteArray.size_append]; omega
                  have HZ1 := Lib.hid (And.intro hz1 (And.intro hz2 hz3))
                  clear hz1 hz2 hz3 hk0
                  go_wp2_with fail
                  refine (cm _).mono ?_
                  rintro e w' ⟨rfl, rfl⟩
                  go_wp2
                  go_quiet (fail)
                  go_wp2
                  go_roundw
                  case rel => exact ⟨k + 1, _, _, by omega, by go_num, rfl, rfl, HZ1.out.1, HZ1.out.2.1, HZ1.out.2.2, HN, Lib.hid (drewN_belW HBA.out _)⟩
                  case measure => simp [intOf]; omega
                · have hpad := pad_cell wr kk (by omega)
                  obtain ⟨D, hD⟩ : ∃ D, D = bs (padL kk) := ⟨_, rfl⟩
                  rw [← hD] at hpad
                  have hDs : D.size ≤ 3 := by rw [hD, bs_size]; exact padL_len kk
                  have HD : Hid (ls D = padL kk) := by
                    show _ = _
                    rw [hD, ls_bs]
                  have hbA : Below wr.heap.size wr (wr.alloc (.cells #[.string ⟨#[]⟩, .string ⟨#[32]⟩, .string ⟨#[9, 32]⟩, .string ⟨#[32, 59, 32]⟩] 9)) := (Below.refl _ _).alloc (Nat.le_refl _) _
                  have gA : (wr.alloc (.cells #[.string ⟨#[]⟩, .string ⟨#[32]⟩, .string ⟨#[9, 32]⟩, .string ⟨#[32, 59, 32]⟩] 9)).cell? ⟨b, off + k, none⟩ = some (.string p) := (hbA.cell (p := ⟨b, off + k, none⟩) hbr).trans g0
                  have HBA := Lib.hid (HB.out.trans (hbA.mono HB.out.size))
                  have j0 : (0 : Int) ≤ (kk : Int) := by omega
                  have j1 : (kk : Int) < 4 := by omega
                  clear hD hbA
                  have t1 : decide ((0 : Int) < (k : Int)) = true := decide_eq_true (by omega)
                  have m1 : 0 < k := by omega
                  have z1 : (⟨#[59]⟩ : ByteArray).size = 1 := rfl
                  have s1 : ¬ 9223372036854775807 < P.size + 1 := by omega
                  have s1b : ¬ 9223372036854775807 < P.size + (⟨#[59]⟩ : ByteArray).size := by rw [z1]; omega
                  have s1c : ¬ 9223372036854775807 < V.size + 1 := by omega
                  have s1d : ¬ 9223372036854775807 < V.size + (⟨#[59]⟩ : ByteArray).size := by rw [z1]; omega
                  have s1e : ¬ 9223372036854775807 < P.size + 1 + p.size := by omega
                  have s1f : ¬ 9223372036854775807 < (P ++ (⟨#[59]⟩ : ByteArray)).size + p.size := by rw [ByteArray.size_append, z1]; omega
                  have s2 : ¬ 9223372036854775807 < V.size + 1 + D.size := by omega
                  have s2b : ¬ 9223372036854775807 < (V ++ (⟨#[59]⟩ : ByteArray)).size + D.size := by rw [ByteArray.size_append, z1]; omega
                  have s3 : ¬ 9223372036854775807 < V.size + 1 + D.size + p.size := by omega
                  have s4 : ¬ 9223372036854775807 < (V ++ (⟨#[59]⟩ : ByteArray) ++ D).size + p.size := by rw [ByteArray.size_append, ByteArray.size_append, z1]; omega
                  have s5 : ¬ 9223372036854775807 < V.size + 1 + D.size + p.size + D.size := by omega
                  have s6 : ¬ 9223372036854775807 < (V ++ (⟨#[59]⟩ : ByteArray) ++ D ++ p).size + D.size := by rw [ByteArray.size_append, ByteArray.size_append, ByteArray.size_append, z1]; omega
                  have HN : Hid (WS (k + 1) (ls (P ++ ⟨#[59]⟩ ++ p)) (ls (V ++ ⟨#[59]⟩ ++ D ++ p ++ D))) := by
                    rw [ls_append, ls_append, ls_append, ls_append, ls_append, ls_append, HD.out, show ls ⟨#[59]⟩ = [59] from rfl]
                    exact Lib.hid (HW.out.next m1 HF.out kk)
                  have hz1 : (P ++ ⟨#[59]⟩ ++ p).size ≤ (k + 1) * 101 := by rw [ByteArray.size_append, ByteArray.size_append, z1]; omega
                  have hz2 : (V ++ ⟨#[59]⟩ ++ D ++ p ++ D).size ≤ (k + 1) * 107 := by rw [ByteArray.size_append, ByteArray.size_append, ByteArray.size_append, ByteArray.size_append, z1]; omega
                  have hz3 : (P ++ ⟨#[59]⟩ ++ p).size ≤ (V ++ ⟨#[59]⟩ ++ D ++ p ++ D).size := by rw [ByteArray.size_append, ByteArray.size_append, ByteArray.size_append, ByteArray.size_append, ByteArray.size_append, ByteArray.size_append, z1]; omega
                  have HZ1 := Lib.hid (And.intro hz1 (And.intro hz2 hz3))
                  clear hz1 hz2 hz3 hk0 z1
                  go_wp2_with fail
                  refine (cm _).mono ?_
                  rintro e w' ⟨rfl, rfl⟩
                  go_wp2
                  go_quiet (fail)
                  go_wp2
                  go_roundw
                  case rel => exact ⟨k + 1, _, _, by omega, by go_num, rfl, rfl, HZ1.out.1, HZ1.out.2.1, HZ1.out.2.2, HN, Lib.hid (drewN_belW HBA.out _)⟩
                  case measure => simp [intOf]; omega
      · obtain rfl : k = n1 := by omega
        by_cases hbig : 4096 < V.size
        · have t1 : decide ((4096 : Int) < (V.size : Int)) = true := decide_eq_true (by omega)
          clear hbig
          go_wp2_with fail
          refine (awake18_any _).mono ?_
          rintro e w2 ⟨rfl, hb2⟩
          have hbf := HB.out.trans (hb2.mono HB.out.size)
          clear hb2
          go_wp2
          go_ret
          exact ⟨rfl, hbf⟩
        · have t1 : decide ((4096 : Int) < (V.size : Int)) = false := decide_eq_false (by omega)
          have heq : dirL (ls V) = dirL (ls P) := HW.out.same (by rw [ls_length]; omega) (by rw [ls_length]; omega)
          obtain ⟨l, r, hl⟩ : ∃ l r, dirL (ls P) = (l, r) := ⟨_, _, rfl⟩
          have hl32 : l.length ≤ 32 := by have := dirL_len (ls P); rw [hl] at this; exact this
          have c5 := dirs_at (l := l) (r := r) (fun W => dirParse_any P (by omega) W) hl
          have c6 := dirs_at (l := l) (r := r) (fun W => dirParse_any V (by omega) W) (heq.trans hl)
          clear heq hl hbig
          go_wp2_with fail
          refine (c5 _).mono ?_
          rintro e w1 ⟨A3, d1, rfl, hc1, _, hh1, hb1⟩
          have HB := Lib.hid (HB.out.trans (hb1.mono HB.out.size))
          clear hb1
          go_wp2_with fail
          refine (c6 _).mono ?_
          rintro e w2 ⟨A4, d2, rfl, hc2, _, hh2, hb1⟩
          replace hh1 := (hh1.below hb1).more hb1.size
          have HB := Lib.hid (HB.out.trans (hb1.mono HB.out.size))
          clear hb1
          go_wp2_with fail
          refine (dirs_same A3 A4 l.length l.length d1 d2 l w2.heap.size w2 hh1 hh2 (Nat.le_refl _) (by omega) (by omega) hc1 hc2).mono ?_
          rintro e w3 ⟨rfl, hb1⟩
          have HB := Lib.hid (HB.out.trans (hb1.mono HB.out.size))
          clear hb1
          go_wp2_with fail
          refine (awake18_any _).mono ?_
          rintro e w2 ⟨rfl, hb2⟩
          have hbf := HB.out.trans (hb2.mono HB.out.size)
          clear hb2
          go_wp2
          go_ret
          exact ⟨rfl, hbf⟩

end Go.Proofs.Ytbpgkdhdooaigaa
