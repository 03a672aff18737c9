/-
  Contract of the statement's group of layer 11 (written by tools/gen-I6S.py).
-/
import Derived.Test.YthihfhmclmmadaaDoorI6O
import Derived.Test.YthihfhmclmmadaaDoorDigS
namespace Go.Proofs.YthihfhmclmmadaaDoor
open Go.RowKit

def hexU (d : Nat) : UInt8 := if d < 10 then UInt8.ofNat (48 + d) else UInt8.ofNat (55 + d)
theorem hexU_lit : ∀ r : Fin 16, (⟨#[48, 49, 50, 51, 52, 53, 54, 55, 56, 57, 65, 66, 67, 68, 69, 70]⟩ : ByteArray).extract r.val (r.val + 1) = bs [hexU r.val] := by decide +kernel
theorem hexU_dig : ∀ r : Fin 16, digV (hexU r.val) = r.val := by decide +kernel
theorem hexc_dig : ∀ r : Fin 16, digV (hexc r.val) = r.val := by decide +kernel
theorem valB_shift : ∀ (l : List UInt8) (a : Nat), valB 16 a l = a * 16 ^ l.length + valB 16 0 l
  | [], a => by simp [valB]
  | c :: l, a => by
    rw [valB, valB, valB_shift l (a * 16 + digV c), valB_shift l (0 * 16 + digV c), List.length_cons, Nat.pow_succ, Nat.add_mul, Nat.add_mul, Nat.zero_mul, Nat.zero_add, Nat.mul_comm (16 ^ l.length) 16, ← Nat.mul_assoc]
    omega
/-- How far the digits of n have come: m is still to be written. -/
structure Hx (n m : Nat) (L : List UInt8) : Prop where
  val : m * 16 ^ L.length + valB 16 0 L = n
  all : L.all (fun c => decide (digV c < 16)) = true
  len : L.length ≤ 4
theorem Hx.start (n : Nat) : Hx n n [] := ⟨by simp [valB], rfl, by simp⟩
theorem Hx.next {n m : Nat} {L : List UInt8} (h : Hx n m L) (hn : n < 65536) (hc : 0 < m ∨ L = []) (c : UInt8) (hd : digV c = m % 16) : Hx n (m / 16) (c :: L) := by
  have hl : L.length ≤ 3 := by
    rcases hc with hc | hc
    · have h1 := h.val
      have h2 := h.len
      rcases Nat.lt_or_ge L.length 4 with h3 | h3
      · omega
      · have h4 : L.length = 4 := by omega
        rw [h4] at h1
        have : m * 16 ^ 4 = m * 65536 := rfl
        omega
    · rw [hc]; simp
  refine ⟨?_, ?_, by simp; omega⟩
  · have hv := h.val
    rw [valB, Nat.zero_mul, Nat.zero_add, valB_shift, List.length_cons, Nat.pow_succ, hd, Nat.mul_comm (16 ^ L.length) 16, ← Nat.mul_assoc, ← Nat.add_assoc, ← Nat.add_mul]
    have : m / 16 * 16 + m % 16 = m := by omega
    rw [this]; exact hv
  · rw [List.all_cons, Bool.and_eq_true]
    exact ⟨by rw [hd]; exact decide_eq_true (Nat.mod_lt _ (by omega)), h.all⟩
theorem Hx.pad {n : Nat} {L : List UInt8} (h : Hx n 0 L) (hl : L.length < 4) : Hx n 0 (48 :: L) := by
  refine ⟨?_, ?_, by simp; omega⟩
  · have hv := h.val
    rw [Nat.zero_mul, Nat.zero_add] at hv
    rw [Nat.zero_mul, Nat.zero_add, valB, valB_shift, show digV 48 = 0 from rfl]
    simpa using hv
  · rw [List.all_cons, Bool.and_eq_true]
    exact ⟨rfl, h.all⟩
theorem Hx.hex {n : Nat} {L : List UInt8} (h : Hx n 0 L) (hne : L ≠ []) : hexL L = some n := by
  have hv := h.val
  rw [Nat.zero_mul, Nat.zero_add] at hv
  have : 1 ≤ L.length := by cases L with
    | nil => exact absurd rfl hne
    | cons _ _ => simp
  unfold hexL
  rw [if_pos ⟨⟨this, h.len⟩, h.all⟩, hv]
/-- The digits that the loop writes. -/
def dg (hx : Nat → UInt8) : Nat → Nat → List UInt8 → List UInt8
  | 0, _, L => L
  | f + 1, m, L => if m = 0 then L else dg hx f (m / 16) (hx (m % 16) :: L)
def dgR (hx : Nat → UInt8) (n : Nat) : List UInt8 := if n = 0 then [hx 0] else dg hx 4 n []
def padZ : Nat → List UInt8 → List UInt8
  | 0, M => M
  | k + 1, M => if M.length < 4 then padZ k (48 :: M) else M
def grpX (up : Bool) : Nat → UInt8 := if up then hexU else hexc
def grpT (up : Bool) (n z : Nat) : List UInt8 := padZ z (dgR (grpX up) n)
theorem dg_zero (hx : Nat → UInt8) (L : List UInt8) : ∀ f, dg hx f 0 L = L
  | 0 => rfl
  | f + 1 => by rw [dg, if_pos rfl]
theorem dg_ne (hx : Nat → UInt8) : ∀ (f m : Nat) (L : List UInt8), L ≠ [] → dg hx f m L ≠ []
  | 0, _, _, h => h
  | f + 1, m, L, h => by
    rw [dg]; split
    · exact h
    · exact dg_ne hx f _ _ (by simp)
theorem dgR_ne (hx : Nat → UInt8) (n : Nat) : dgR hx n ≠ [] := by
  unfold dgR; split
  · simp
  · rename_i h
    rw [dg, if_neg h]; exact dg_ne hx 3 _ _ (by simp)
theorem padZ_ne : ∀ (k : Nat) (M : List UInt8), M ≠ [] → padZ k M ≠ []
  | 0, _, h => h
  | k + 1, M, h => by
    rw [padZ]; split
    · exact padZ_ne k _ (by simp)
    · exact h
def Dg (hx : Nat → UInt8) (n m : Nat) (L : List UInt8) : Prop := (L = [] ∧ m = n) ∨ (L ≠ [] ∧ ∃ f, m < 16 ^ f ∧ dg hx f m L = dgR hx n)
theorem Dg.next {hx : Nat → UInt8} {n m : Nat} {L : List UInt8} (h : Dg hx n m L) (hn : n < 65536) (hc : 0 < m ∨ L = []) : Dg hx n (m / 16) (hx (m % 16) :: L) := by
  refine .inr ⟨by simp, ?_⟩
  rcases h with ⟨h1, h2⟩ | ⟨h1, f, h2, h3⟩
  · subst h1 h2
    by_cases h0 : m = 0
    · subst h0
      exact ⟨0, by decide, rfl⟩
    · refine ⟨3, by omega, ?_⟩
      unfold dgR
      rw [if_neg h0]
      show dg hx 3 (m / 16) [hx (m % 16)] = (if m = 0 then [] else dg hx 3 (m / 16) [hx (m % 16)])
      rw [if_neg h0]
  · rcases hc with hc | hc
    · match f with
      | 0 => simp at h2; omega
      | f + 1 =>
        rw [dg, if_neg (by omega)] at h3
        exact ⟨f, by rw [Nat.pow_succ] at h2; omega, h3⟩
    · exact absurd hc h1
theorem Dg.fin {hx : Nat → UInt8} {n : Nat} {L : List UInt8} (h : Dg hx n 0 L) (hL : L ≠ []) : L = dgR hx n := by
  rcases h with ⟨h1, _⟩ | ⟨_, f, _, h3⟩
  · exact absurd h1 hL
  · rwa [dg_zero] at h3
theorem dg_hx {hx : Nat → UInt8} (hd : ∀ r, r < 16 → digV (hx r) = r) {n : Nat} (hn : n < 65536) : ∀ (f m : Nat) (L : List UInt8), m < 16 ^ f → Hx n m L → Hx n 0 (dg hx f m L)
  | 0, m, L, hm, h => by
    obtain rfl : m = 0 := by simp at hm; omega
    exact h
  | f + 1, m, L, hm, h => by
    rw [dg]; split
    · rename_i h0; subst h0; exact h
    · rename_i h0
      exact dg_hx hd hn f _ _ (by rw [Nat.pow_succ] at hm; omega) (h.next hn (.inl (by omega)) _ (hd _ (Nat.mod_lt _ (by omega))))
theorem dgR_hx {hx : Nat → UInt8} (hd : ∀ r, r < 16 → digV (hx r) = r) {n : Nat} (hn : n < 65536) : Hx n 0 (dgR hx n) := by
  unfold dgR; split
  · rename_i h0
    subst h0
    exact (Hx.start 0).next hn (.inr rfl) (hx 0) (hd 0 (by omega))
  · exact dg_hx hd hn 4 n [] (by omega) (Hx.start n)
theorem padZ_hx {n : Nat} : ∀ (k : Nat) (M : List UInt8), Hx n 0 M → Hx n 0 (padZ k M)
  | 0, _, h => h
  | k + 1, M, h => by
    rw [padZ]; split
    · rename_i hl; exact padZ_hx k _ (h.pad hl)
    · exact h
theorem grpT_hex (up : Bool) (n z : Nat) (hn : n < 65536) : hexL (grpT up n z) = some n := by
  refine (padZ_hx z _ (dgR_hx ?_ hn)).hex (padZ_ne z _ (dgR_ne _ n))
  intro r hr
  unfold grpX
  split
  · exact hexU_dig ⟨r, hr⟩
  · exact hexc_dig ⟨r, hr⟩

theorem hex_cols {x : List UInt8} {g : Nat} (h : hexL x = some g) : x ≠ [] ∧ noB 58 x := by
  unfold hexL at h
  split at h
  · rename_i hh
    obtain ⟨⟨h1, h2⟩, h3⟩ := hh
    refine ⟨by intro e; rw [e] at h1; simp at h1, ?_⟩
    intro c hc e
    have := List.all_eq_true.1 h3 c hc
    rw [e] at this
    exact absurd this (by decide)
  · cases h
theorem hex_len {x : List UInt8} {g : Nat} (h : hexL x = some g) : x.length ≤ 4 := by
  unfold hexL at h
  split at h
  · rename_i hh; exact hh.1.2
  · cases h

set_option maxRecDepth 20000 in
set_option maxHeartbeats 4000000 in
theorem group_lo (n z : Nat) (hn : n < 65536) (hz : z < 4) (w : World) :
    Calls Tryd.prog 14 #[.int .u16 (n : Int), .int .i64 (z : Int), .bool false] w fun e w' => e = .returned (.string (bs (grpT false n z))) ∧ w = w' := by
  go_enter Tryd.func14, Tryd.ntmps14
  go_wp2
  go_loop [8, 9] (fun v i => ∃ (m : Nat) (L : List UInt8) (X : ByteArray), m < 65536 ∧ i = .int .u16 m ∧ v = .string X ∧ Hid (X = bs L) ∧ Hid (Hx n m L ∧ Dg hexc n m L)) (fun v i => 2 * (intOf i).toNat + strE v)
  case atStart => exact ⟨n, [], _, hn, rfl, rfl, Lib.hid rfl, Lib.hid ⟨Hx.start n, .inl ⟨rfl, rfl⟩⟩⟩
  case round =>
    obtain ⟨m, L, X, hm, rfl, rfl, HX, HDG⟩ := hrel
    have HD := Lib.hid HDG.out.1
    have HG := Lib.hid HDG.out.2
    by_cases h0 : 0 < m
    · have hd : decide ((0 : Int) < (m : Int)) = true := decide_eq_true (by omega)
      have HC : Hid (0 < m ∨ L = []) := Lib.hid (.inl h0)
      obtain ⟨q, hq⟩ : ∃ q, q = m / 16 := ⟨_, rfl⟩
      obtain ⟨r, hr⟩ : ∃ r, r = m % 16 := ⟨_, rfl⟩
      have hqi : (m : Int) / 16 = (q : Int) := by omega
      have hri : (m : Int) % 16 = (r : Int) := by omega
      have hr16 : r < 16 := by omega
      have hri2 : (r : Int) < 16 := by omega
      have hx := hex_lit ⟨r, hr16⟩
      simp only at hx
      have HNX : Hid (Hx n q (hexc r :: L) ∧ Dg hexc n q (hexc r :: L)) := by rw [hq]; exact Lib.hid ⟨HD.out.next hn HC.out _ (by rw [← hr]; exact hexc_dig ⟨r, hr16⟩), by rw [hr]; exact HG.out.next hn HC.out⟩
      have hlen := HD.out.len
      have hsz : ¬ (9223372036854775807 < ((⟨#[48, 49, 50, 51, 52, 53, 54, 55, 56, 57, 97, 98, 99, 100, 101, 102]⟩ : ByteArray).extract r (r + 1)).size + X.size) := by rw [hx, HX.out, bs_size, bs_size]; simp; omega
      have HS : Hid ((⟨#[48, 49, 50, 51, 52, 53, 54, 55, 56, 57, 97, 98, 99, 100, 101, 102]⟩ : ByteArray).extract r (r + 1) ++ X = bs (hexc r :: L)) := by show _ = _; rw [hx, HX.out]; exact bs_add [hexc r] L
      have HQ := Lib.hid hq
      clear hq hr hx hlen
      go_wp2
      go_round
      case rel => exact ⟨q, hexc r :: L, _, by have := HQ.out; omega, rfl, rfl, Lib.hid HS.out, HNX⟩
      case measure =>
        have h1 := HQ.out
        have h2 : ((⟨#[48, 49, 50, 51, 52, 53, 54, 55, 56, 57, 97, 98, 99, 100, 101, 102]⟩ : ByteArray).extract r (r + 1) ++ X).size ≠ 0 := by rw [HS.out, bs_size]; simp
        simp only [intOf, strE, if_neg h2]
        omega
    · have hd : decide ((0 : Int) < (m : Int)) = false := decide_eq_false (by omega)
      have HM0 : Hid (m = 0) := Lib.hid (by omega)
      by_cases hL : L = []
      · have he : (X.toList == ([] : List UInt8)) = true := by rw [HX.out, bs_empty, decide_eq_true hL]
        have HC : Hid (0 < m ∨ L = []) := Lib.hid (.inr hL)
        have HL0 := Lib.hid hL
        obtain rfl : m = 0 := HM0.out
        have hw1 : IntKind.u16.wrap 1 = 1 := by decide
        have hsz : ¬ (9223372036854775807 < ((⟨#[48, 49, 50, 51, 52, 53, 54, 55, 56, 57, 97, 98, 99, 100, 101, 102]⟩ : ByteArray).extract 0 1).size + X.size) := by rw [HX.out, HL0.out, bs_size, ByteArray.size_extract]; simp; omega
        have HS : Hid ((⟨#[48, 49, 50, 51, 52, 53, 54, 55, 56, 57, 97, 98, 99, 100, 101, 102]⟩ : ByteArray).extract 0 1 ++ X = bs [hexc 0]) := by show _ = _; rw [HX.out, HL0.out, hex_lit ⟨0, by omega⟩]; exact bs_add [hexc 0] []
        have HNX : Hid (Hx n 0 [hexc 0] ∧ Dg hexc n 0 [hexc 0]) := by
          have h := HD.out.next hn HC.out (hexc 0) (hexc_dig ⟨0, by omega⟩)
          have h2 := HG.out.next hn HC.out
          rw [HL0.out, Nat.zero_div] at h
          rw [HL0.out, Nat.zero_div, Nat.zero_mod] at h2
          exact Lib.hid ⟨h, h2⟩
        clear hL h0 HM0 hd
        go_wp2
        go_round
        case rel => exact ⟨0, [hexc 0], _, by omega, rfl, rfl, Lib.hid HS.out, HNX⟩
        case measure =>
          have h2 : ((⟨#[48, 49, 50, 51, 52, 53, 54, 55, 56, 57, 97, 98, 99, 100, 101, 102]⟩ : ByteArray).extract 0 1 ++ X).size ≠ 0 := by rw [HS.out, bs_size]; simp
          have h3 : X.size = 0 := by rw [HX.out, HL0.out]; rfl
          simp only [intOf, strE, if_neg h2, h3, if_true]
          omega
      · have he : (X.toList == ([] : List UInt8)) = false := by rw [HX.out, bs_empty, decide_eq_false hL]
        have HD0 : Hid (Hx n 0 L ∧ L = dgR hexc n) := by
          have h := HD.out
          have h2 := HG.out
          rw [HM0.out] at h h2
          exact Lib.hid ⟨h, h2.fin hL⟩
        have HNE := Lib.hid hL
        clear h0 hL HD HG HDG
        go_wp2
        go_loop [8, 1] (fun v i => ∃ (k : Nat) (M : List UInt8) (Y : ByteArray), k < 4 ∧ i = .int .i64 k ∧ v = .string Y ∧ Hid (Y = bs M) ∧ Y.size ≤ 4 ∧ Hid (Hx n 0 M ∧ padZ k M = grpT false n z)) (fun _ i => (intOf i).toNat)
        case atStart => exact ⟨z, L, X, hz, rfl, rfl, HX, by rw [HX.out, bs_size]; exact HD0.out.1.len, Lib.hid ⟨HD0.out.1, by rw [HD0.out.2]; rfl⟩⟩
        case round =>
          obtain ⟨k, M, Y, hk, rfl, rfl, HY, hy4, HM⟩ := hrel
          by_cases hl : Y.size < 4 ∧ 0 < k
          · obtain ⟨hl1, hk0⟩ := hl
            have d1 : decide ((Y.size : Int) < 4) = true := decide_eq_true (by omega)
            have d2 : decide ((0 : Int) < (k : Int)) = true := decide_eq_true (by omega)
            have hs : ¬ (9223372036854775807 < (⟨#[48]⟩ : ByteArray).size + Y.size) := by have : (⟨#[48]⟩ : ByteArray).size = 1 := rfl; omega
            have HS : Hid ((⟨#[48]⟩ : ByteArray) ++ Y = bs (48 :: M)) := by show _ = _; rw [HY.out]; exact bs_add [48] M
            have HSZ : Hid (((⟨#[48]⟩ : ByteArray) ++ Y).size ≤ 4) := Lib.hid (by rw [ByteArray.size_append]; have : (⟨#[48]⟩ : ByteArray).size = 1 := rfl; omega)
            have HML : Hid (M.length < 4) := Lib.hid (by rw [← bs_size, ← HY.out]; exact hl1)
            have HPD : Hid (Hx n 0 (48 :: M) ∧ padZ (k - 1) (48 :: M) = grpT false n z) := by
              refine Lib.hid ⟨HM.out.1.pad HML.out, ?_⟩
              have h := HM.out.2
              rw [show k = (k - 1) + 1 by omega, padZ, if_pos HML.out] at h
              exact h
            go_wp2
            go_round
            case rel => exact ⟨k - 1, 48 :: M, _, by omega, by go_num, rfl, Lib.hid HS.out, HSZ.out, HPD⟩
            case measure => simp [intOf]; omega
          · have HF : Hid (M = grpT false n z) := by
              have h := HM.out.2
              have hl2 := hl
              rw [HY.out, bs_size] at hl2
              refine Lib.hid ?_
              rw [← h]
              match k, hl2 with
              | 0, _ => rfl
              | k + 1, hl2 => rw [padZ, if_neg (by omega)]
            have HR : Hid (Y = bs (grpT false n z)) := by show _ = _; rw [HY.out, HF.out]
            by_cases h : Y.size < 4
            · have d1 : decide ((Y.size : Int) < 4) = true := decide_eq_true (by omega)
              obtain rfl : k = 0 := by omega
              clear hl h
              go_wp2
              go_ret
              exact ⟨ret_str HR.out, rfl⟩
            · have d2 : decide ((Y.size : Int) < 4) = false := decide_eq_false (by omega)
              clear h hl
              go_wp2
              go_ret
              exact ⟨ret_str HR.out, rfl⟩

set_option maxRecDepth 20000 in
set_option maxHeartbeats 4000000 in
theorem group_up (n z : Nat) (hn : n < 65536) (hz : z < 4) (w : World) :
    Calls Tryd.prog 14 #[.int .u16 (n : Int), .int .i64 (z : Int), .bool true] w fun e w' => e = .returned (.string (bs (grpT true n z))) ∧ w = w' := by
  go_enter Tryd.func14, Tryd.ntmps14
  go_wp2
  go_loop [8, 9] (fun v i => ∃ (m : Nat) (L : List UInt8) (X : ByteArray), m < 65536 ∧ i = .int .u16 m ∧ v = .string X ∧ Hid (X = bs L) ∧ Hid (Hx n m L ∧ Dg hexU n m L)) (fun v i => 2 * (intOf i).toNat + strE v)
  case atStart => exact ⟨n, [], _, hn, rfl, rfl, Lib.hid rfl, Lib.hid ⟨Hx.start n, .inl ⟨rfl, rfl⟩⟩⟩
  case round =>
    obtain ⟨m, L, X, hm, rfl, rfl, HX, HDG⟩ := hrel
    have HD := Lib.hid HDG.out.1
    have HG := Lib.hid HDG.out.2
    by_cases h0 : 0 < m
    · have hd : decide ((0 : Int) < (m : Int)) = true := decide_eq_true (by omega)
      have HC : Hid (0 < m ∨ L = []) := Lib.hid (.inl h0)
      obtain ⟨q, hq⟩ : ∃ q, q = m / 16 := ⟨_, rfl⟩
      obtain ⟨r, hr⟩ : ∃ r, r = m % 16 := ⟨_, rfl⟩
      have hqi : (m : Int) / 16 = (q : Int) := by omega
      have hri : (m : Int) % 16 = (r : Int) := by omega
      have hr16 : r < 16 := by omega
      have hri2 : (r : Int) < 16 := by omega
      have hx := hexU_lit ⟨r, hr16⟩
      simp only at hx
      have HNX : Hid (Hx n q (hexU r :: L) ∧ Dg hexU n q (hexU r :: L)) := by rw [hq]; exact Lib.hid ⟨HD.out.next hn HC.out _ (by rw [← hr]; exact hexU_dig ⟨r, hr16⟩), by rw [hr]; exact HG.out.next hn HC.out⟩
      have hlen := HD.out.len
      have hsz : ¬ (9223372036854775807 < ((⟨#[48, 49, 50, 51, 52, 53, 54, 55, 56, 57, 65, 66, 67, 68, 69, 70]⟩ : ByteArray).extract r (r + 1)).size + X.size) := by rw [hx, HX.out, bs_size, bs_size]; simp; omega
      have HS : Hid ((⟨#[48, 49, 50, 51, 52, 53, 54, 55, 56, 57, 65, 66, 67, 68, 69, 70]⟩ : ByteArray).extract r (r + 1) ++ X = bs (hexU r :: L)) := by show _ = _; rw [hx, HX.out]; exact bs_add [hexU r] L
      have HQ := Lib.hid hq
      clear hq hr hx hlen
      go_wp2
      go_round
      case rel => exact ⟨q, hexU r :: L, _, by have := HQ.out; omega, rfl, rfl, Lib.hid HS.out, HNX⟩
      case measure =>
        have h1 := HQ.out
        have h2 : ((⟨#[48, 49, 50, 51, 52, 53, 54, 55, 56, 57, 65, 66, 67, 68, 69, 70]⟩ : ByteArray).extract r (r + 1) ++ X).size ≠ 0 := by rw [HS.out, bs_size]; simp
        simp only [intOf, strE, if_neg h2]
        omega
    · have hd : decide ((0 : Int) < (m : Int)) = false := decide_eq_false (by omega)
      have HM0 : Hid (m = 0) := Lib.hid (by omega)
      by_cases hL : L = []
      · have he : (X.toList == ([] : List UInt8)) = true := by rw [HX.out, bs_empty, decide_eq_true hL]
        have HC : Hid (0 < m ∨ L = []) := Lib.hid (.inr hL)
        have HL0 := Lib.hid hL
        obtain rfl : m = 0 := HM0.out
        have hw1 : IntKind.u16.wrap 1 = 1 := by decide
        have hsz : ¬ (9223372036854775807 < ((⟨#[48, 49, 50, 51, 52, 53, 54, 55, 56, 57, 65, 66, 67, 68, 69, 70]⟩ : ByteArray).extract 0 1).size + X.size) := by rw [HX.out, HL0.out, bs_size, ByteArray.size_extract]; simp; omega
        have HS : Hid ((⟨#[48, 49, 50, 51, 52, 53, 54, 55, 56, 57, 65, 66, 67, 68, 69, 70]⟩ : ByteArray).extract 0 1 ++ X = bs [hexU 0]) := by show _ = _; rw [HX.out, HL0.out, hexU_lit ⟨0, by omega⟩]; exact bs_add [hexU 0] []
        have HNX : Hid (Hx n 0 [hexU 0] ∧ Dg hexU n 0 [hexU 0]) := by
          have h := HD.out.next hn HC.out (hexU 0) (hexU_dig ⟨0, by omega⟩)
          have h2 := HG.out.next hn HC.out
          rw [HL0.out, Nat.zero_div] at h
          rw [HL0.out, Nat.zero_div, Nat.zero_mod] at h2
          exact Lib.hid ⟨h, h2⟩
        clear hL h0 HM0 hd
        go_wp2
        go_round
        case rel => exact ⟨0, [hexU 0], _, by omega, rfl, rfl, Lib.hid HS.out, HNX⟩
        case measure =>
          have h2 : ((⟨#[48, 49, 50, 51, 52, 53, 54, 55, 56, 57, 65, 66, 67, 68, 69, 70]⟩ : ByteArray).extract 0 1 ++ X).size ≠ 0 := by rw [HS.out, bs_size]; simp
          have h3 : X.size = 0 := by rw [HX.out, HL0.out]; rfl
          simp only [intOf, strE, if_neg h2, h3, if_true]
          omega
      · have he : (X.toList == ([] : List UInt8)) = false := by rw [HX.out, bs_empty, decide_eq_false hL]
        have HD0 : Hid (Hx n 0 L ∧ L = dgR hexU n) := by
          have h := HD.out
          have h2 := HG.out
          rw [HM0.out] at h h2
          exact Lib.hid ⟨h, h2.fin hL⟩
        have HNE := Lib.hid hL
        clear h0 hL HD HG HDG
        go_wp2
        go_loop [8, 1] (fun v i => ∃ (k : Nat) (M : List UInt8) (Y : ByteArray), k < 4 ∧ i = .int .i64 k ∧ v = .string Y ∧ Hid (Y = bs M) ∧ Y.size ≤ 4 ∧ Hid (Hx n 0 M ∧ padZ k M = grpT true n z)) (fun _ i => (intOf i).toNat)
        case atStart => exact ⟨z, L, X, hz, rfl, rfl, HX, by rw [HX.out, bs_size]; exact HD0.out.1.len, Lib.hid ⟨HD0.out.1, by rw [HD0.out.2]; rfl⟩⟩
        case round =>
          obtain ⟨k, M, Y, hk, rfl, rfl, HY, hy4, HM⟩ := hrel
          by_cases hl : Y.size < 4 ∧ 0 < k
          · obtain ⟨hl1, hk0⟩ := hl
            have d1 : decide ((Y.size : Int) < 4) = true := decide_eq_true (by omega)
            have d2 : decide ((0 : Int) < (k : Int)) = true := decide_eq_true (by omega)
            have hs : ¬ (9223372036854775807 < (⟨#[48]⟩ : ByteArray).size + Y.size) := by have : (⟨#[48]⟩ : ByteArray).size = 1 := rfl; omega
            have HS : Hid ((⟨#[48]⟩ : ByteArray) ++ Y = bs (48 :: M)) := by show _ = _; rw [HY.out]; exact bs_add [48] M
            have HSZ : Hid (((⟨#[48]⟩ : ByteArray) ++ Y).size ≤ 4) := Lib.hid (by rw [ByteArray.size_append]; have : (⟨#[48]⟩ : ByteArray).size = 1 := rfl; omega)
            have HML : Hid (M.length < 4) := Lib.hid (by rw [← bs_size, ← HY.out]; exact hl1)
            have HPD : Hid (Hx n 0 (48 :: M) ∧ padZ (k - 1) (48 :: M) = grpT true n z) := by
              refine Lib.hid ⟨HM.out.1.pad HML.out, ?_⟩
              have h := HM.out.2
              rw [show k = (k - 1) + 1 by omega, padZ, if_pos HML.out] at h
              exact h
            go_wp2
            go_round
            case rel => exact ⟨k - 1, 48 :: M, _, by omega, by go_num, rfl, Lib.hid HS.out, HSZ.out, HPD⟩
            case measure => simp [intOf]; omega
          · have HF : Hid (M = grpT true n z) := by
              have h := HM.out.2
              have hl2 := hl
              rw [HY.out, bs_size] at hl2
              refine Lib.hid ?_
              rw [← h]
              match k, hl2 with
              | 0, _ => rfl
              | k + 1, hl2 => rw [padZ, if_neg (by omega)]
            have HR : Hid (Y = bs (grpT true n z)) := by show _ = _; rw [HY.out, HF.out]
            by_cases h : Y.size < 4
            · have d1 : decide ((Y.size : Int) < 4) = true := decide_eq_true (by omega)
              obtain rfl : k = 0 := by omega
              clear hl h
              go_wp2
              go_ret
              exact ⟨ret_str HR.out, rfl⟩
            · have d2 : decide ((Y.size : Int) < 4) = false := decide_eq_false (by omega)
              clear h hl
              go_wp2
              go_ret
              exact ⟨ret_str HR.out, rfl⟩

theorem group_any (n z : Nat) (b : Bool) (hn : n < 65536) (hz : z < 4) (w : World) :
    Calls Tryd.prog 14 #[.int .u16 (n : Int), .int .i64 (z : Int), .bool b] w fun e w' => e = .returned (.string (bs (grpT b n z))) ∧ w = w' := by
  cases b
  · exact group_lo n z hn hz w
  · exact group_up n z hn hz w

end Go.Proofs.YthihfhmclmmadaaDoor
