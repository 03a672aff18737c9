/-
  The walk of Ipv4Spellings: it returns true; four numbers that came in as an array.
-/
import Derived.Test.YtmgmepikgccmcaaDoorIpD
import Derived.Test.YtmgmepikgccmcaaDoorArr
import Derived.Lib.SmallJoins
import Derived.OpenShut
import Derived.Deep.Slices
import Derived.ChangeSame
namespace Go.Proofs.YtmgmepikgccmcaaDoor
open Go.RowKit

theorem join_snoc (x : List UInt8) : ∀ Q : List (List UInt8), Q ≠ [] → joinL 46 (Q ++ [x]) = joinL 46 Q ++ 46 :: x
  | [], h => absurd rfl h
  | [a], _ => rfl
  | a :: b :: r, _ => by
    rw [List.cons_append, joinL_cons 46 a _ (by simp), join_snoc x (b :: r) (by simp), joinL_cons 46 a (b :: r) (by simp)]
    simp
/-- How far the spelling has come. -/
structure SpQ (n v k : Nat) (Q : List (List UInt8)) (X : ByteArray) : Prop where
  str : X = bs (joinL 46 Q)
  len : Q.length = k
  sp : ∀ i, i < k → Spelt (Q.getD i []) (partV n v i)
theorem SpQ.next {n v k : Nat} {Q : List (List UInt8)} {X : ByteArray} (h : SpQ n v k Q X) {x : List UInt8} {p : Nat} (hp : partV n v k = p) (hx : Spelt x p) (Y : ByteArray) (hY : Y = bs (joinL 46 (Q ++ [x]))) : SpQ n v (k + 1) (Q ++ [x]) Y := by
  refine ⟨hY, by simp [h.len], fun i hi => ?_⟩
  rcases Nat.lt_or_ge i k with h1 | h1
  · have := h.sp i h1
    rwa [List.getD_eq_getElem?_getD, List.getElem?_append_left (by rw [h.len]; exact h1), ← List.getD_eq_getElem?_getD]
  · obtain rfl : i = k := by omega
    rw [List.getD_eq_getElem?_getD, List.getElem?_append_right (by rw [h.len]; exact Nat.le_refl _), h.len, Nat.sub_self]
    rw [hp]; exact hx
/-- The string with one more part. -/
theorem SpQ.first {n v : Nat} {Q : List (List UInt8)} {X : ByteArray} (h : SpQ n v 0 Q X) (x : List UInt8) : X ++ bs x = bs (joinL 46 (Q ++ [x])) := by
  have : Q = [] := List.eq_nil_of_length_eq_zero h.len
  subst this
  rw [h.str]
  exact bs_add [] x
theorem SpQ.more {n v k : Nat} {Q : List (List UInt8)} {X : ByteArray} (h : SpQ n v k Q X) (hk : 0 < k) (x : List UInt8) : X ++ (⟨#[46]⟩ : ByteArray) ++ bs x = bs (joinL 46 (Q ++ [x])) := by
  have hne : Q ≠ [] := by intro e; have := h.len; rw [e] at this; simp at this; omega
  rw [h.str, join_snoc x Q hne]
  have e : bs (joinL 46 Q) ++ (⟨#[46]⟩ : ByteArray) = bs (joinL 46 Q ++ [46]) := bs_add _ [46]
  rw [e, bs_add]
  simp
theorem part_last (n v k : Nat) (h : k + 1 = n) (hn : n ≤ 4) : partV n v k = v % 2 ^ (32 - 8 * k) := by
  unfold partV
  rw [if_pos h, show 32 - 8 * k = 8 * (4 - k) by omega, Nat.pow_mul]
theorem part_more (n v k : Nat) (h : ¬ k + 1 = n) (hk : k ≤ 3) : partV n v k = v / 2 ^ (24 - 8 * k) % 256 := by
  unfold partV
  rw [if_neg h, show 24 - 8 * k = 8 * (3 - k) by omega, Nat.pow_mul]

theorem tyInt10 : Tryd.prog.underlying 3 = some (.int .i64) := by kernel_rfl
theorem bounds_i64 {x : Int} (h : (Lit.int .i64 x).wf = true) : -9223372036854775808 ≤ x ∧ x ≤ 9223372036854775807 := wf_i64 h
theorem four_of {α : Type} (l : List α) (h : l.length = 4) : ∃ a b c d, l = [a, b, c, d] := by
  match l, h with
  | [a, b, c, d], _ => exact ⟨a, b, c, d, rfl⟩
open Go.ChangeShapes Go.WideShapes in
set_option maxRecDepth 100000 in
/-- Four numbers that came in as an array. -/
theorem open_arr4 {H : Type} {enc : TypeId × Value → H} {W : World} {base : Nat} {held : Bool} {v : Value} {d : DataW H} {p : List MemPlace} (hval : Value.okWide Tryd.prog W .any base 30 v) (h : DataW.Trod enc Tryd.prog W 0 (fun _ => true) held 30 v d p) :
    ∃ z0 z1 z2 z3 : Int, v = .agg #[.int .i64 z0, .int .i64 z1, .int .i64 z2, .int .i64 z3] ∧ (-9223372036854775808 ≤ z0 ∧ z0 ≤ 9223372036854775807) ∧ (-9223372036854775808 ≤ z1 ∧ z1 ≤ 9223372036854775807) ∧ (-9223372036854775808 ≤ z2 ∧ z2 ≤ 9223372036854775807) ∧ (-9223372036854775808 ≤ z3 ∧ z3 ≤ 9223372036854775807) := by
  obtain ⟨cs, rfl, hsz, _⟩ : ∃ cs, v = .agg cs ∧ cs.size = Tryd.prog.cellsOf 30 ∧ Row.okWide Tryd.prog W .any base 30 cs := by
    unfold Value.okWide at hval
    rw [Tryd.underlying30] at hval
    exact hval
  have hc4 : Tryd.prog.cellsOf 30 = 4 := by kernel_rfl
  have hc1 : Tryd.prog.cellsOf 3 = 1 := by kernel_rfl
  rw [hc4] at hsz
  obtain ⟨l⟩ := cs
  obtain ⟨c0, c1, c2, c3, rfl⟩ := four_of l hsz
  obtain ⟨fuel, hf⟩ := h
  match fuel with
  | 0 => simp [DataW.trod] at hf
  | n + 1 =>
    simp only [Value.cells] at hf
    unfold DataW.trod at hf
    rw [Tryd.underlying30] at hf
    simp [show List.range 4 = [0, 1, 2, 3] from rfl, hc1] at hf
    cases h0 : DataW.trod enc Tryd.prog W 0 (fun _ => true) held n 3 [c0] with
    | none => simp [h0] at hf
    | some y0 =>
      cases h1 : DataW.trod enc Tryd.prog W 0 (fun _ => true) held n 3 [c1] with
      | none => simp [h0, h1] at hf
      | some y1 =>
        cases h2 : DataW.trod enc Tryd.prog W 0 (fun _ => true) held n 3 [c2] with
        | none => simp [h0, h1, h2] at hf
        | some y2 =>
          cases h3 : DataW.trod enc Tryd.prog W 0 (fun _ => true) held n 3 [c3] with
          | none => simp [h0, h1, h2, h3] at hf
          | some y3 =>
            obtain ⟨x0, e0, _, w0⟩ := DataW.trod_int tyInt10 h0
            obtain ⟨x1, e1, _, w1⟩ := DataW.trod_int tyInt10 h1
            obtain ⟨x2, e2, _, w2⟩ := DataW.trod_int tyInt10 h2
            obtain ⟨x3, e3, _, w3⟩ := DataW.trod_int tyInt10 h3
            simp at e0 e1 e2 e3
            subst e0 e1 e2 e3
            exact ⟨x0, x1, x2, x3, rfl, bounds_i64 w0, bounds_i64 w1, bounds_i64 w2, bounds_i64 w3⟩

set_option maxRecDepth 20000 in
set_option maxHeartbeats 8000000 in
theorem walkIpSp (hP : IpPar 8) (hQ : IpPn 10) (hN : IpNum 12) (hF : IpFmt 14)
    (v a z0 z1 z2 z3 : Int) (w : World) (hv : (Lit.int .u32 v).wf = true) (ha : (Lit.int .i64 a).wf = true)
    (hz : (-9223372036854775808 ≤ z0 ∧ z0 ≤ 9223372036854775807) ∧ (-9223372036854775808 ≤ z1 ∧ z1 ≤ 9223372036854775807) ∧ (-9223372036854775808 ≤ z2 ∧ z2 ≤ 9223372036854775807) ∧ (-9223372036854775808 ≤ z3 ∧ z3 ≤ 9223372036854775807)) (hpw : Pow w) :
    Calls Tryd.prog 5 #[.int .u32 v, .int .i64 a, .agg #[.int .i64 z0, .int .i64 z1, .int .i64 z2, .int .i64 z3]] w (Yes w) := by
  obtain ⟨hv0, hv1⟩ := wf_u32 hv
  have ha := wf_i64 ha
  have m1 := fun W => mod_any a 4 (by omega) (by omega) ha.1 ha.2 W
  obtain ⟨j, hj⟩ : ∃ j : Nat, a % 4 = (j : Int) := ⟨(a % 4).toNat, by omega⟩
  have hj3 : j ≤ 3 := by omega
  rw [hj] at m1
  clear hj ha hv
  obtain ⟨n, hn⟩ : ∃ n, n = j + 1 := ⟨_, rfl⟩
  have e1 : 1 + (j : Int) = (n : Int) := by omega
  have e2 : (n : Int) - 1 = (j : Int) := by omega
  have hn4 : n ≤ 4 := by omega
  have hn1 : 1 ≤ n := by omega
  obtain ⟨u, rfl⟩ := Int.eq_ofNat_of_zero_le hv0
  have hu : u < 4294967296 := by omega
  have HN := Lib.hid hn
  clear hn
  have c9 := awake10_any hP hQ hN hF
  have hbx : Below w.heap.size w (w.alloc (.cells #[.int .i64 z0, .int .i64 z1, .int .i64 z2, .int .i64 z3] 30)) := (Below.refl _ _).alloc (Nat.le_refl _) _
  have hrx := row_new w #[.int .i64 z0, .int .i64 z1, .int .i64 z2, .int .i64 z3] 30
  have HZ : Hid (∀ k, k < 4 → ∃ z : Int, (#[Value.int .i64 z0, .int .i64 z1, .int .i64 z2, .int .i64 z3])[k]? = some (.int .i64 z) ∧ -9223372036854775808 ≤ z ∧ z ≤ 9223372036854775807) := by
    refine Lib.hid fun k hk => ?_
    have : k = 0 ∨ k = 1 ∨ k = 2 ∨ k = 3 := by omega
    rcases this with rfl | rfl | rfl | rfl
    · exact ⟨z0, rfl, hz.1⟩
    · exact ⟨z1, rfl, hz.2.1⟩
    · exact ⟨z2, rfl, hz.2.2.1⟩
    · exact ⟨z3, rfl, hz.2.2.2⟩
  clear hz
  go_enter Tryd.func5, Tryd.ntmps5
  go_wp2_with fail
  generalize w.alloc (.cells #[.int .i64 z0, .int .i64 z1, .int .i64 z2, .int .i64 z3] 30) = W0 at *
  generalize #[Value.int .i64 z0, .int .i64 z1, .int .i64 z2, .int .i64 z3] = ZC at *
  refine (m1 _).mono ?_
  rintro r w' ⟨rfl, rfl⟩
  clear m1
  go_wp2_with fail
  clear e1
  go_loopw [8, 9] (fun s i wr => ∃ (k : Nat) (Q : List (List UInt8)) (X : ByteArray), k ≤ n ∧ i = .int .i64 k ∧ s = .string X ∧ X.size ≤ 31 * k ∧ Hid (SpQ n u k Q X) ∧ Row wr w.heap.size 30 ZC ∧ Below w.heap.size w wr) (fun _ i _ => n - (intOf i).toNat)
  case atStart => exact ⟨0, [], _, Nat.zero_le _, rfl, rfl, by decide, Lib.hid ⟨rfl, rfl, fun i hi => by omega⟩, hrx, hbx⟩
  case round =>
    obtain ⟨k, Q, X, hk, rfl, rfl, hXs, HQ, hr, hb⟩ := hrel
    by_cases hlt : k < n
    · have hk3 : k ≤ 3 := by omega
      obtain ⟨kv, hkv⟩ : ∃ x : Int, x = (k : Int) := ⟨_, rfl⟩
      have HKV := Lib.hid hkv
      have hkn : kv.toNat = k := by omega
      have hkv0 : 0 ≤ kv := by omega
      have hkv4 : kv < 4 := by omega
      have hkvn : kv < (n : Int) := by omega
      rw [← hkv]
      obtain ⟨z, hzc, hz0, hz1⟩ := HZ.out k (by omega)
      have hcell : wr.cell? ⟨w.heap.size, k, none⟩ = some (.int .i64 z) := by rw [cell_of_row wr _ k ZC _ (0, 0) hr]; exact hzc
      have hcell2 : ∀ c t, (wr.alloc (.cells c t)).cell? ⟨w.heap.size, k, none⟩ = some (.int .i64 z) := fun c t => ((((Below.refl wr.heap.size wr).alloc (Nat.le_refl _) (.cells c t)).cell (p := ⟨w.heap.size, k, none⟩) hr.lt)).trans hcell
      have m2 := fun W => mod_any z 3 (by omega) (by omega) hz0 hz1 W
      obtain ⟨r, hre⟩ : ∃ r : Nat, z % 3 = (r : Int) := ⟨(z % 3).toNat, by omega⟩
      have hr3 : r = 0 ∨ r = 1 ∨ r = 2 := by omega
      rw [hre] at m2
      obtain ⟨K, hK⟩ : ∃ K, K = 24 - 8 * k := ⟨_, rfl⟩
      have hKm : (24 : Int) - 8 * kv = (K : Int) := by omega
      have hK24 : K ≤ 24 := by omega
      obtain ⟨y, hy⟩ : ∃ y : Nat, y = u / 2 ^ K := ⟨_, rfl⟩
      have hsh : (u : Int) / 2 ^ K = (y : Int) := by
        rw [hy, Int.natCast_ediv, Int.natCast_pow]; rfl
      have hyu : y ≤ u := by rw [hy]; exact Nat.div_le_self _ _
      obtain ⟨p1, hp1⟩ : ∃ p, p = y % 256 := ⟨_, rfl⟩
      have hp1m : (y : Int) % 256 = (p1 : Int) := by omega
      have hp1b : p1 < 256 := by omega
      obtain ⟨K2, hK2⟩ : ∃ K, K = 32 - 8 * k := ⟨_, rfl⟩
      have hK2m : (32 : Int) - 8 * kv = (K2 : Int) := by omega
      have hK32 : K2 ≤ 32 := by omega
      obtain ⟨M, hM⟩ : ∃ M : Nat, M = 2 ^ K2 := ⟨_, rfl⟩
      have hMM : (2 : Int) ^ K2 = (M : Int) := by rw [hM, Int.natCast_pow]; rfl
      have hM1 : 256 ≤ M ∧ M ≤ 4294967296 := by
        rw [hM, hK2]
        have : k = 0 ∨ k = 1 ∨ k = 2 ∨ k = 3 := by omega
        rcases this with rfl | rfl | rfl | rfl <;> decide
      obtain ⟨hM0, hM2⟩ := hM1
      obtain ⟨p2, hp2⟩ : ∃ p, p = u % M := ⟨_, rfl⟩
      have hp2m : (u : Int) % (M : Int) = (p2 : Int) := by omega
      have hp2b : p2 < 4294967296 := by
        have : p2 < M := by rw [hp2]; exact Nat.mod_lt _ (by omega)
        omega
      have HPL : Hid (k + 1 = n → partV n u k = p2) := Lib.hid fun h => by rw [part_last n u k h hn4, ← hK2, ← hM, hp2]
      have HPM : Hid (¬ k + 1 = n → partV n u k = p1) := Lib.hid fun h => by rw [part_more n u k h hk3, ← hK, ← hy, hp1]
      have hlast : (kv == (j : Int)) = decide (k + 1 = n) := by
        have := HN.out
        apply Bool.eq_iff_iff.2
        simp only [beq_iff_eq, decide_eq_true_eq]
        omega
      have hpos : decide ((0 : Int) < kv) = decide (0 < k) := by
        apply Bool.eq_iff_iff.2
        simp only [decide_eq_true_eq]
        omega
      obtain ⟨p, hp⟩ : ∃ p, p = if k + 1 = n then p2 else p1 := ⟨_, rfl⟩
      have hpb : p < 4294967296 := by rw [hp]; split <;> omega
      have HP : Hid (partV n u k = p) := by
        show _ = _
        rw [hp]
        split
        · rename_i h; exact HPL.out h
        · rename_i h; exact HPM.out h
      have s8 := spelt_of 8 p (.inl rfl) hpb
      have s10 := spelt_of 10 p (.inr (.inl rfl)) hpb
      have s16 := spelt_of 16 p (.inr (.inr rfl)) hpb
      have d8 := fun W => digits8_any p hpb W
      have d10 := fun W => digits10_any p hpb W
      have d16 := fun W => digits16_any p hpb W
      have H8 := Lib.hid s8
      have H10 := Lib.hid s10
      have H16 := Lib.hid s16
      clear hkv hre hK hy hp1 hK2 hM hp2 s8 s10 s16 hzc
      have hb1 := hb.alloc hb.size (.cells #[.int .i64 8, .int .i64 10, .int .i64 16] 3)
      have hr1 := hr.grown0 (World.grownBy_alloc wr (.cells #[.int .i64 8, .int .i64 10, .int .i64 16] 3) _)
      have hnew := row_new wr #[.int .i64 8, .int .i64 10, .int .i64 16] 3
      have hc1 := hcell2 #[.int .i64 8, .int .i64 10, .int .i64 16] 3
      clear hcell hcell2
      go_wp2_with fail
      generalize wr.alloc (.cells #[.int .i64 8, .int .i64 10, .int .i64 16] 3) = W1 at *
      refine (m2 _).mono ?_
      rintro r' w' ⟨rfl, rfl⟩
      clear m2 hr hb hc1
      rcases hr3 with rfl | rfl | rfl
      · have hcb : W1.cell? ⟨wr.heap.size, 0, none⟩ = some (.int .i64 8) := hnew.cell (k := 0) (by simp)
        clear hnew
        by_cases hl : k + 1 = n
        · by_cases hk0 : 0 < k
          · have hp' : p = p2 := by rw [hp, if_pos hl]
            have hlast' := hlast
            rw [decide_eq_true hl] at hlast'
            have hpos' := hpos
            rw [decide_eq_true hk0] at hpos'
            rw [hp'] at d8
            have HS : Hid (Spelt (spellL 8 p) p) := H8
            have HPV : Hid (partV n u k = p) := HP
            have HSN : Hid (bs (spellL 8 p2) = bs (spellL 8 p)) := by rw [hp']; exact Lib.hid rfl
            have hys : (bs (spellL 8 p2)).size ≤ 30 := by rw [HSN.out, bs_size]; exact HS.out.len
            generalize bs (spellL 8 p2) = Y at *
            have a1 : ¬ (9223372036854775807 < X.size + (⟨#[46]⟩ : ByteArray).size) := by have : (⟨#[46]⟩ : ByteArray).size = 1 := rfl; omega
            have a2 : ¬ (9223372036854775807 < (X ++ (⟨#[46]⟩ : ByteArray)).size + Y.size) := by rw [ByteArray.size_append]; have : (⟨#[46]⟩ : ByteArray).size = 1 := rfl; omega
            have a3 : ¬ (9223372036854775807 < X.size + Y.size) := by omega
            have HJ : Hid (X ++ (⟨#[46]⟩ : ByteArray) ++ Y = bs (joinL 46 (Q ++ [spellL 8 p]))) := by rw [HSN.out]; exact Lib.hid (HQ.out.more hk0 _)
            have hsz2 : (X ++ (⟨#[46]⟩ : ByteArray) ++ Y).size ≤ 31 * (k + 1) := by rw [ByteArray.size_append, ByteArray.size_append]; have : (⟨#[46]⟩ : ByteArray).size = 1 := rfl; omega
            have HSZ2 := Lib.hid hsz2
            clear d10 d16 H8 H10 H16 HP hp hsz2 hlast hpos HPL HPM
            clear hl hk0
            go_wp2_with (go_at_call 17; refine (d8 _).mono ?_; rintro e w3 ⟨rfl, hb3⟩)
            go_roundw
            case rel =>
              refine ⟨k + 1, Q ++ [spellL 8 p], _, by omega, by have := HKV.out; first | (congr 1; omega) | go_num, rfl, HSZ2.out, Lib.hid (HQ.out.next HPV.out HS.out _ HJ.out), ?_, hb1.trans (hb3.mono hb1.size)⟩
              exact hr1.below hb3 hr1.lt
            case measure => have := HKV.out; simp [intOf]; omega
          · have hp' : p = p2 := by rw [hp, if_pos hl]
            have hlast' := hlast
            rw [decide_eq_true hl] at hlast'
            have hpos' := hpos
            rw [decide_eq_false hk0] at hpos'
            rw [hp'] at d8
            have HS : Hid (Spelt (spellL 8 p) p) := H8
            have HPV : Hid (partV n u k = p) := HP
            have HSN : Hid (bs (spellL 8 p2) = bs (spellL 8 p)) := by rw [hp']; exact Lib.hid rfl
            have hys : (bs (spellL 8 p2)).size ≤ 30 := by rw [HSN.out, bs_size]; exact HS.out.len
            generalize bs (spellL 8 p2) = Y at *
            have a1 : ¬ (9223372036854775807 < X.size + (⟨#[46]⟩ : ByteArray).size) := by have : (⟨#[46]⟩ : ByteArray).size = 1 := rfl; omega
            have a2 : ¬ (9223372036854775807 < (X ++ (⟨#[46]⟩ : ByteArray)).size + Y.size) := by rw [ByteArray.size_append]; have : (⟨#[46]⟩ : ByteArray).size = 1 := rfl; omega
            have a3 : ¬ (9223372036854775807 < X.size + Y.size) := by omega
            have HQ0 : SpQ n u 0 Q X := by have h := HQ.out; rwa [show k = 0 by omega] at h
            have HJ : Hid (X ++ Y = bs (joinL 46 (Q ++ [spellL 8 p]))) := by rw [HSN.out]; exact Lib.hid (HQ0.first _)
            have hsz2 : (X ++ Y).size ≤ 31 * (k + 1) := by rw [ByteArray.size_append]; omega
            have HSZ2 := Lib.hid hsz2
            clear d10 d16 H8 H10 H16 HP hp hsz2 hlast hpos HPL HPM
            clear hl hk0
            go_wp2_with (go_at_call 17; refine (d8 _).mono ?_; rintro e w3 ⟨rfl, hb3⟩)
            go_roundw
            case rel =>
              refine ⟨k + 1, Q ++ [spellL 8 p], _, by omega, by have := HKV.out; first | (congr 1; omega) | go_num, rfl, HSZ2.out, Lib.hid (HQ.out.next HPV.out HS.out _ HJ.out), ?_, hb1.trans (hb3.mono hb1.size)⟩
              exact hr1.below hb3 hr1.lt
            case measure => have := HKV.out; simp [intOf]; omega
        · by_cases hk0 : 0 < k
          · have hp' : p = p1 := by rw [hp, if_neg hl]
            have hlast' := hlast
            rw [decide_eq_false hl] at hlast'
            have hpos' := hpos
            rw [decide_eq_true hk0] at hpos'
            rw [hp'] at d8
            have HS : Hid (Spelt (spellL 8 p) p) := H8
            have HPV : Hid (partV n u k = p) := HP
            have HSN : Hid (bs (spellL 8 p1) = bs (spellL 8 p)) := by rw [hp']; exact Lib.hid rfl
            have hys : (bs (spellL 8 p1)).size ≤ 30 := by rw [HSN.out, bs_size]; exact HS.out.len
            generalize bs (spellL 8 p1) = Y at *
            have a1 : ¬ (9223372036854775807 < X.size + (⟨#[46]⟩ : ByteArray).size) := by have : (⟨#[46]⟩ : ByteArray).size = 1 := rfl; omega
            have a2 : ¬ (9223372036854775807 < (X ++ (⟨#[46]⟩ : ByteArray)).size + Y.size) := by rw [ByteArray.size_append]; have : (⟨#[46]⟩ : ByteArray).size = 1 := rfl; omega
            have a3 : ¬ (9223372036854775807 < X.size + Y.size) := by omega
            have HJ : Hid (X ++ (⟨#[46]⟩ : ByteArray) ++ Y = bs (joinL 46 (Q ++ [spellL 8 p]))) := by rw [HSN.out]; exact Lib.hid (HQ.out.more hk0 _)
            have hsz2 : (X ++ (⟨#[46]⟩ : ByteArray) ++ Y).size ≤ 31 * (k + 1) := by rw [ByteArray.size_append, ByteArray.size_append]; have : (⟨#[46]⟩ : ByteArray).size = 1 := rfl; omega
            have HSZ2 := Lib.hid hsz2
            clear d10 d16 H8 H10 H16 HP hp hsz2 hlast hpos HPL HPM
            clear hl hk0
            go_wp2_with (go_at_call 17; refine (d8 _).mono ?_; rintro e w3 ⟨rfl, hb3⟩)
            go_roundw
            case rel =>
              refine ⟨k + 1, Q ++ [spellL 8 p], _, by omega, by have := HKV.out; first | (congr 1; omega) | go_num, rfl, HSZ2.out, Lib.hid (HQ.out.next HPV.out HS.out _ HJ.out), ?_, hb1.trans (hb3.mono hb1.size)⟩
              exact hr1.below hb3 hr1.lt
            case measure => have := HKV.out; simp [intOf]; omega
          · have hp' : p = p1 := by rw [hp, if_neg hl]
            have hlast' := hlast
            rw [decide_eq_false hl] at hlast'
            have hpos' := hpos
            rw [decide_eq_false hk0] at hpos'
            rw [hp'] at d8
            have HS : Hid (Spelt (spellL 8 p) p) := H8
            have HPV : Hid (partV n u k = p) := HP
            have HSN : Hid (bs (spellL 8 p1) = bs (spellL 8 p)) := by rw [hp']; exact Lib.hid rfl
            have hys : (bs (spellL 8 p1)).size ≤ 30 := by rw [HSN.out, bs_size]; exact HS.out.len
            generalize bs (spellL 8 p1) = Y at *
            have a1 : ¬ (9223372036854775807 < X.size + (⟨#[46]⟩ : ByteArray).size) := by have : (⟨#[46]⟩ : ByteArray).size = 1 := rfl; omega
            have a2 : ¬ (9223372036854775807 < (X ++ (⟨#[46]⟩ : ByteArray)).size + Y.size) := by rw [ByteArray.size_append]; have : (⟨#[46]⟩ : ByteArray).size = 1 := rfl; omega
            have a3 : ¬ (9223372036854775807 < X.size + Y.size) := by omega
            have HQ0 : SpQ n u 0 Q X := by have h := HQ.out; rwa [show k = 0 by omega] at h
            have HJ : Hid (X ++ Y = bs (joinL 46 (Q ++ [spellL 8 p]))) := by rw [HSN.out]; exact Lib.hid (HQ0.first _)
            have hsz2 : (X ++ Y).size ≤ 31 * (k + 1) := by rw [ByteArray.size_append]; omega
            have HSZ2 := Lib.hid hsz2
            clear d10 d16 H8 H10 H16 HP hp hsz2 hlast hpos HPL HPM
            clear hl hk0
            go_wp2_with (go_at_call 17; refine (d8 _).mono ?_; rintro e w3 ⟨rfl, hb3⟩)
            go_roundw
            case rel =>
              refine ⟨k + 1, Q ++ [spellL 8 p], _, by omega, by have := HKV.out; first | (congr 1; omega) | go_num, rfl, HSZ2.out, Lib.hid (HQ.out.next HPV.out HS.out _ HJ.out), ?_, hb1.trans (hb3.mono hb1.size)⟩
              exact hr1.below hb3 hr1.lt
            case measure => have := HKV.out; simp [intOf]; omega
      · have hcb : W1.cell? ⟨wr.heap.size, 1, none⟩ = some (.int .i64 10) := hnew.cell (k := 1) (by simp)
        clear hnew
        by_cases hl : k + 1 = n
        · by_cases hk0 : 0 < k
          · have hp' : p = p2 := by rw [hp, if_pos hl]
            have hlast' := hlast
            rw [decide_eq_true hl] at hlast'
            have hpos' := hpos
            rw [decide_eq_true hk0] at hpos'
            rw [hp'] at d10
            have HS : Hid (Spelt (spellL 10 p) p) := H10
            have HPV : Hid (partV n u k = p) := HP
            have HSN : Hid (bs (spellL 10 p2) = bs (spellL 10 p)) := by rw [hp']; exact Lib.hid rfl
            have hys : (bs (spellL 10 p2)).size ≤ 30 := by rw [HSN.out, bs_size]; exact HS.out.len
            generalize bs (spellL 10 p2) = Y at *
            have a1 : ¬ (9223372036854775807 < X.size + (⟨#[46]⟩ : ByteArray).size) := by have : (⟨#[46]⟩ : ByteArray).size = 1 := rfl; omega
            have a2 : ¬ (9223372036854775807 < (X ++ (⟨#[46]⟩ : ByteArray)).size + Y.size) := by rw [ByteArray.size_append]; have : (⟨#[46]⟩ : ByteArray).size = 1 := rfl; omega
            have a3 : ¬ (9223372036854775807 < X.size + Y.size) := by omega
            have HJ : Hid (X ++ (⟨#[46]⟩ : ByteArray) ++ Y = bs (joinL 46 (Q ++ [spellL 10 p]))) := by rw [HSN.out]; exact Lib.hid (HQ.out.more hk0 _)
            have hsz2 : (X ++ (⟨#[46]⟩ : ByteArray) ++ Y).size ≤ 31 * (k + 1) := by rw [ByteArray.size_append, ByteArray.size_append]; have : (⟨#[46]⟩ : ByteArray).size = 1 := rfl; omega
            have HSZ2 := Lib.hid hsz2
            clear d8 d16 H8 H10 H16 HP hp hsz2 hlast hpos HPL HPM
            clear hl hk0
            go_wp2_with (go_at_call 17; refine (d10 _).mono ?_; rintro e w3 ⟨rfl, hb3⟩)
            go_roundw
            case rel =>
              refine ⟨k + 1, Q ++ [spellL 10 p], _, by omega, by have := HKV.out; first | (congr 1; omega) | go_num, rfl, HSZ2.out, Lib.hid (HQ.out.next HPV.out HS.out _ HJ.out), ?_, hb1.trans (hb3.mono hb1.size)⟩
              exact hr1.below hb3 hr1.lt
            case measure => have := HKV.out; simp [intOf]; omega
          · have hp' : p = p2 := by rw [hp, if_pos hl]
            have hlast' := hlast
            rw [decide_eq_true hl] at hlast'
            have hpos' := hpos
            rw [decide_eq_false hk0] at hpos'
            rw [hp'] at d10
            have HS : Hid (Spelt (spellL 10 p) p) := H10
            have HPV : Hid (partV n u k = p) := HP
            have HSN : Hid (bs (spellL 10 p2) = bs (spellL 10 p)) := by rw [hp']; exact Lib.hid rfl
            have hys : (bs (spellL 10 p2)).size ≤ 30 := by rw [HSN.out, bs_size]; exact HS.out.len
            generalize bs (spellL 10 p2) = Y at *
            have a1 : ¬ (9223372036854775807 < X.size + (⟨#[46]⟩ : ByteArray).size) := by have : (⟨#[46]⟩ : ByteArray).size = 1 := rfl; omega
            have a2 : ¬ (9223372036854775807 < (X ++ (⟨#[46]⟩ : ByteArray)).size + Y.size) := by rw [ByteArray.size_append]; have : (⟨#[46]⟩ : ByteArray).size = 1 := rfl; omega
            have a3 : ¬ (9223372036854775807 < X.size + Y.size) := by omega
            have HQ0 : SpQ n u 0 Q X := by have h := HQ.out; rwa [show k = 0 by omega] at h
            have HJ : Hid (X ++ Y = bs (joinL 46 (Q ++ [spellL 10 p]))) := by rw [HSN.out]; exact Lib.hid (HQ0.first _)
            have hsz2 : (X ++ Y).size ≤ 31 * (k + 1) := by rw [ByteArray.size_append]; omega
            have HSZ2 := Lib.hid hsz2
            clear d8 d16 H8 H10 H16 HP hp hsz2 hlast hpos HPL HPM
            clear hl hk0
            go_wp2_with (go_at_call 17; refine (d10 _).mono ?_; rintro e w3 ⟨rfl, hb3⟩)
            go_roundw
            case rel =>
              refine ⟨k + 1, Q ++ [spellL 10 p], _, by omega, by have := HKV.out; first | (congr 1; omega) | go_num, rfl, HSZ2.out, Lib.hid (HQ.out.next HPV.out HS.out _ HJ.out), ?_, hb1.trans (hb3.mono hb1.size)⟩
              exact hr1.below hb3 hr1.lt
            case measure => have := HKV.out; simp [intOf]; omega
        · by_cases hk0 : 0 < k
          · have hp' : p = p1 := by rw [hp, if_neg hl]
            have hlast' := hlast
            rw [decide_eq_false hl] at hlast'
            have hpos' := hpos
            rw [decide_eq_true hk0] at hpos'
            rw [hp'] at d10
            have HS : Hid (Spelt (spellL 10 p) p) := H10
            have HPV : Hid (partV n u k = p) := HP
            have HSN : Hid (bs (spellL 10 p1) = bs (spellL 10 p)) := by rw [hp']; exact Lib.hid rfl
            have hys : (bs (spellL 10 p1)).size ≤ 30 := by rw [HSN.out, bs_size]; exact HS.out.len
            generalize bs (spellL 10 p1) = Y at *
            have a1 : ¬ (9223372036854775807 < X.size + (⟨#[46]⟩ : ByteArray).size) := by have : (⟨#[46]⟩ : ByteArray).size = 1 := rfl; omega
            have a2 : ¬ (9223372036854775807 < (X ++ (⟨#[46]⟩ : ByteArray)).size + Y.size) := by rw [ByteArray.size_append]; have : (⟨#[46]⟩ : ByteArray).size = 1 := rfl; omega
            have a3 : ¬ (9223372036854775807 < X.size + Y.size) := by omega
            have HJ : Hid (X ++ (⟨#[46]⟩ : ByteArray) ++ Y = bs (joinL 46 (Q ++ [spellL 10 p]))) := by rw [HSN.out]; exact Lib.hid (HQ.out.more hk0 _)
            have hsz2 : (X ++ (⟨#[46]⟩ : ByteArray) ++ Y).size ≤ 31 * (k + 1) := by rw [ByteArray.size_append, ByteArray.size_append]; have : (⟨#[46]⟩ : ByteArray).size = 1 := rfl; omega
            have HSZ2 := Lib.hid hsz2
            clear d8 d16 H8 H10 H16 HP hp hsz2 hlast hpos HPL HPM
            clear hl hk0
            go_wp2_with (go_at_call 17; refine (d10 _).mono ?_; rintro e w3 ⟨rfl, hb3⟩)
            go_roundw
            case rel =>
              refine ⟨k + 1, Q ++ [spellL 10 p], _, by omega, by have := HKV.out; first | (congr 1; omega) | go_num, rfl, HSZ2.out, Lib.hid (HQ.out.next HPV.out HS.out _ HJ.out), ?_, hb1.trans (hb3.mono hb1.size)⟩
              exact hr1.below hb3 hr1.lt
            case measure => have := HKV.out; simp [intOf]; omega
          · have hp' : p = p1 := by rw [hp, if_neg hl]
            have hlast' := hlast
            rw [decide_eq_false hl] at hlast'
            have hpos' := hpos
            rw [decide_eq_false hk0] at hpos'
            rw [hp'] at d10
            have HS : Hid (Spelt (spellL 10 p) p) := H10
            have HPV : Hid (partV n u k = p) := HP
            have HSN : Hid (bs (spellL 10 p1) = bs (spellL 10 p)) := by rw [hp']; exact Lib.hid rfl
            have hys : (bs (spellL 10 p1)).size ≤ 30 := by rw [HSN.out, bs_size]; exact HS.out.len
            generalize bs (spellL 10 p1) = Y at *
            have a1 : ¬ (9223372036854775807 < X.size + (⟨#[46]⟩ : ByteArray).size) := by have : (⟨#[46]⟩ : ByteArray).size = 1 := rfl; omega
            have a2 : ¬ (9223372036854775807 < (X ++ (⟨#[46]⟩ : ByteArray)).size + Y.size) := by rw [ByteArray.size_append]; have : (⟨#[46]⟩ : ByteArray).size = 1 := rfl; omega
            have a3 : ¬ (9223372036854775807 < X.size + Y.size) := by omega
            have HQ0 : SpQ n u 0 Q X := by have h := HQ.out; rwa [show k = 0 by omega] at h
            have HJ : Hid (X ++ Y = bs (joinL 46 (Q ++ [spellL 10 p]))) := by rw [HSN.out]; exact Lib.hid (HQ0.first _)
            have hsz2 : (X ++ Y).size ≤ 31 * (k + 1) := by rw [ByteArray.size_append]; omega
            have HSZ2 := Lib.hid hsz2
            clear d8 d16 H8 H10 H16 HP hp hsz2 hlast hpos HPL HPM
            clear hl hk0
            go_wp2_with (go_at_call 17; refine (d10 _).mono ?_; rintro e w3 ⟨rfl, hb3⟩)
            go_roundw
            case rel =>
              refine ⟨k + 1, Q ++ [spellL 10 p], _, by omega, by have := HKV.out; first | (congr 1; omega) | go_num, rfl, HSZ2.out, Lib.hid (HQ.out.next HPV.out HS.out _ HJ.out), ?_, hb1.trans (hb3.mono hb1.size)⟩
              exact hr1.below hb3 hr1.lt
            case measure => have := HKV.out; simp [intOf]; omega
      · have hcb : W1.cell? ⟨wr.heap.size, 2, none⟩ = some (.int .i64 16) := hnew.cell (k := 2) (by simp)
        clear hnew
        by_cases hl : k + 1 = n
        · by_cases hk0 : 0 < k
          · have hp' : p = p2 := by rw [hp, if_pos hl]
            have hlast' := hlast
            rw [decide_eq_true hl] at hlast'
            have hpos' := hpos
            rw [decide_eq_true hk0] at hpos'
            rw [hp'] at d16
            have HS : Hid (Spelt (spellL 16 p) p) := H16
            have HPV : Hid (partV n u k = p) := HP
            have HSN : Hid (bs (spellL 16 p2) = bs (spellL 16 p)) := by rw [hp']; exact Lib.hid rfl
            have hys : (bs (spellL 16 p2)).size ≤ 30 := by rw [HSN.out, bs_size]; exact HS.out.len
            generalize bs (spellL 16 p2) = Y at *
            have a1 : ¬ (9223372036854775807 < X.size + (⟨#[46]⟩ : ByteArray).size) := by have : (⟨#[46]⟩ : ByteArray).size = 1 := rfl; omega
            have a2 : ¬ (9223372036854775807 < (X ++ (⟨#[46]⟩ : ByteArray)).size + Y.size) := by rw [ByteArray.size_append]; have : (⟨#[46]⟩ : ByteArray).size = 1 := rfl; omega
            have a3 : ¬ (9223372036854775807 < X.size + Y.size) := by omega
            have HJ : Hid (X ++ (⟨#[46]⟩ : ByteArray) ++ Y = bs (joinL 46 (Q ++ [spellL 16 p]))) := by rw [HSN.out]; exact Lib.hid (HQ.out.more hk0 _)
            have hsz2 : (X ++ (⟨#[46]⟩ : ByteArray) ++ Y).size ≤ 31 * (k + 1) := by rw [ByteArray.size_append, ByteArray.size_append]; have : (⟨#[46]⟩ : ByteArray).size = 1 := rfl; omega
            have HSZ2 := Lib.hid hsz2
            clear d8 d10 H8 H10 H16 HP hp hsz2 hlast hpos HPL HPM
            clear hl hk0
            go_wp2_with (go_at_call 17; refine (d16 _).mono ?_; rintro e w3 ⟨rfl, hb3⟩)
            go_roundw
            case rel =>
              refine ⟨k + 1, Q ++ [spellL 16 p], _, by omega, by have := HKV.out; first | (congr 1; omega) | go_num, rfl, HSZ2.out, Lib.hid (HQ.out.next HPV.out HS.out _ HJ.out), ?_, hb1.trans (hb3.mono hb1.size)⟩
              exact hr1.below hb3 hr1.lt
            case measure => have := HKV.out; simp [intOf]; omega
          · have hp' : p = p2 := by rw [hp, if_pos hl]
            have hlast' := hlast
            rw [decide_eq_true hl] at hlast'
            have hpos' := hpos
            rw [decide_eq_false hk0] at hpos'
            rw [hp'] at d16
            have HS : Hid (Spelt (spellL 16 p) p) := H16
            have HPV : Hid (partV n u k = p) := HP
            have HSN : Hid (bs (spellL 16 p2) = bs (spellL 16 p)) := by rw [hp']; exact Lib.hid rfl
            have hys : (bs (spellL 16 p2)).size ≤ 30 := by rw [HSN.out, bs_size]; exact HS.out.len
            generalize bs (spellL 16 p2) = Y at *
            have a1 : ¬ (9223372036854775807 < X.size + (⟨#[46]⟩ : ByteArray).size) := by have : (⟨#[46]⟩ : ByteArray).size = 1 := rfl; omega
            have a2 : ¬ (9223372036854775807 < (X ++ (⟨#[46]⟩ : ByteArray)).size + Y.size) := by rw [ByteArray.size_append]; have : (⟨#[46]⟩ : ByteArray).size = 1 := rfl; omega
            have a3 : ¬ (9223372036854775807 < X.size + Y.size) := by omega
            have HQ0 : SpQ n u 0 Q X := by have h := HQ.out; rwa [show k = 0 by omega] at h
            have HJ : Hid (X ++ Y = bs (joinL 46 (Q ++ [spellL 16 p]))) := by rw [HSN.out]; exact Lib.hid (HQ0.first _)
            have hsz2 : (X ++ Y).size ≤ 31 * (k + 1) := by rw [ByteArray.size_append]; omega
            have HSZ2 := Lib.hid hsz2
            clear d8 d10 H8 H10 H16 HP hp hsz2 hlast hpos HPL HPM
            clear hl hk0
            go_wp2_with (go_at_call 17; refine (d16 _).mono ?_; rintro e w3 ⟨rfl, hb3⟩)
            go_roundw
            case rel =>
              refine ⟨k + 1, Q ++ [spellL 16 p], _, by omega, by have := HKV.out; first | (congr 1; omega) | go_num, rfl, HSZ2.out, Lib.hid (HQ.out.next HPV.out HS.out _ HJ.out), ?_, hb1.trans (hb3.mono hb1.size)⟩
              exact hr1.below hb3 hr1.lt
            case measure => have := HKV.out; simp [intOf]; omega
        · by_cases hk0 : 0 < k
          · have hp' : p = p1 := by rw [hp, if_neg hl]
            have hlast' := hlast
            rw [decide_eq_false hl] at hlast'
            have hpos' := hpos
            rw [decide_eq_true hk0] at hpos'
            rw [hp'] at d16
            have HS : Hid (Spelt (spellL 16 p) p) := H16
            have HPV : Hid (partV n u k = p) := HP
            have HSN : Hid (bs (spellL 16 p1) = bs (spellL 16 p)) := by rw [hp']; exact Lib.hid rfl
            have hys : (bs (spellL 16 p1)).size ≤ 30 := by rw [HSN.out, bs_size]; exact HS.out.len
            generalize bs (spellL 16 p1) = Y at *
            have a1 : ¬ (9223372036854775807 < X.size + (⟨#[46]⟩ : ByteArray).size) := by have : (⟨#[46]⟩ : ByteArray).size = 1 := rfl; omega
            have a2 : ¬ (9223372036854775807 < (X ++ (⟨#[46]⟩ : ByteArray)).size + Y.size) := by rw [ByteArray.size_append]; have : (⟨#[46]⟩ : ByteArray).size = 1 := rfl; omega
            have a3 : ¬ (9223372036854775807 < X.size + Y.size) := by omega
            have HJ : Hid (X ++ (⟨#[46]⟩ : ByteArray) ++ Y = bs (joinL 46 (Q ++ [spellL 16 p]))) := by rw [HSN.out]; exact Lib.hid (HQ.out.more hk0 _)
            have hsz2 : (X ++ (⟨#[46]⟩ : ByteArray) ++ Y).size ≤ 31 * (k + 1) := by rw [ByteArray.size_append, ByteArray.size_append]; have : (⟨#[46]⟩ : ByteArray).size = 1 := rfl; omega
            have HSZ2 := Lib.hid hsz2
            clear d8 d10 H8 H10 H16 HP hp hsz2 hlast hpos HPL HPM
            clear hl hk0
            go_wp2_with (go_at_call 17; refine (d16 _).mono ?_; rintro e w3 ⟨rfl, hb3⟩)
            go_roundw
            case rel =>
              refine ⟨k + 1, Q ++ [spellL 16 p], _, by omega, by have := HKV.out; first | (congr 1; omega) | go_num, rfl, HSZ2.out, Lib.hid (HQ.out.next HPV.out HS.out _ HJ.out), ?_, hb1.trans (hb3.mono hb1.size)⟩
              exact hr1.below hb3 hr1.lt
            case measure => have := HKV.out; simp [intOf]; omega
          · have hp' : p = p1 := by rw [hp, if_neg hl]
            have hlast' := hlast
            rw [decide_eq_false hl] at hlast'
            have hpos' := hpos
            rw [decide_eq_false hk0] at hpos'
            rw [hp'] at d16
            have HS : Hid (Spelt (spellL 16 p) p) := H16
            have HPV : Hid (partV n u k = p) := HP
            have HSN : Hid (bs (spellL 16 p1) = bs (spellL 16 p)) := by rw [hp']; exact Lib.hid rfl
            have hys : (bs (spellL 16 p1)).size ≤ 30 := by rw [HSN.out, bs_size]; exact HS.out.len
            generalize bs (spellL 16 p1) = Y at *
            have a1 : ¬ (9223372036854775807 < X.size + (⟨#[46]⟩ : ByteArray).size) := by have : (⟨#[46]⟩ : ByteArray).size = 1 := rfl; omega
            have a2 : ¬ (9223372036854775807 < (X ++ (⟨#[46]⟩ : ByteArray)).size + Y.size) := by rw [ByteArray.size_append]; have : (⟨#[46]⟩ : ByteArray).size = 1 := rfl; omega
            have a3 : ¬ (9223372036854775807 < X.size + Y.size) := by omega
            have HQ0 : SpQ n u 0 Q X := by have h := HQ.out; rwa [show k = 0 by omega] at h
            have HJ : Hid (X ++ Y = bs (joinL 46 (Q ++ [spellL 16 p]))) := by rw [HSN.out]; exact Lib.hid (HQ0.first _)
            have hsz2 : (X ++ Y).size ≤ 31 * (k + 1) := by rw [ByteArray.size_append]; omega
            have HSZ2 := Lib.hid hsz2
            clear d8 d10 H8 H10 H16 HP hp hsz2 hlast hpos HPL HPM
            clear hl hk0
            go_wp2_with (go_at_call 17; refine (d16 _).mono ?_; rintro e w3 ⟨rfl, hb3⟩)
            go_roundw
            case rel =>
              refine ⟨k + 1, Q ++ [spellL 16 p], _, by omega, by have := HKV.out; first | (congr 1; omega) | go_num, rfl, HSZ2.out, Lib.hid (HQ.out.next HPV.out HS.out _ HJ.out), ?_, hb1.trans (hb3.mono hb1.size)⟩
              exact hr1.below hb3 hr1.lt
            case measure => have := HKV.out; simp [intOf]; omega
    · obtain rfl : k = n := by omega
      have hj := spelt_join u k hu hn1 hn4 Q HQ.out.len HQ.out.sp
      have hstr := HQ.out.str
      have hlX : ls X = joinL 46 Q := by rw [hstr, ls_bs]
      have q1 := fun W => hQ X W (by omega)
      have q2 := fun W => hQ (X ++ (⟨#[46]⟩ : ByteArray)) W (by rw [ByteArray.size_append]; have : (⟨#[46]⟩ : ByteArray).size = 1 := rfl; omega)
      have q3 := fun W => hN X W (by omega)
      have hl2 : ls (X ++ (⟨#[46]⟩ : ByteArray)) = joinL 46 Q ++ [46] := by rw [ls_append, hlX]; rfl
      rw [hlX, hj.1, show aV (some u) = (u : Int) from rfl, show aK (some u) = true from rfl] at q1
      rw [hl2, hj.2.1, show aV (some u) = (u : Int) from rfl, show aK (some u) = true from rfl] at q2
      rw [hlX, hj.2.2] at q3
      obtain ⟨uv, huv⟩ : ∃ x : Int, x = (u : Int) := ⟨_, rfl⟩
      have he : (uv == uv) = true := by simp
      have hadd : ¬ (9223372036854775807 < X.size + (⟨#[46]⟩ : ByteArray).size) := by have : (⟨#[46]⟩ : ByteArray).size = 1 := rfl; omega
      have hre : (u : Int) = uv := huv.symm
      rw [← huv] at q1 q2
      clear hj hstr hlX hl2 huv
      go_wp2_with fail
      refine (q1 _).mono ?_
      rintro r w5 ⟨rfl, hb5⟩
      replace hb5 := hb.trans (hb5.mono hb.size)
      go_wp2_with fail
      refine (q2 _).mono ?_
      rintro r w6 ⟨rfl, hb6⟩
      replace hb6 := hb5.trans (hb6.mono hb5.size)
      go_wp2_with fail
      refine (q3 _).mono ?_
      rintro r w7 ⟨rfl, hb7⟩
      replace hb7 := hb6.trans (hb7.mono hb6.size)
      go_wp2_with fail
      refine (c9 _ (pow_below hpw hb7)).mono ?_
      rintro r w8 ⟨rfl, hb8⟩
      replace hb8 := hb7.trans (hb8.mono hb7.size)
      go_wp2
      go_ret
      exact ⟨rfl, hb8⟩

end Go.Proofs.YtmgmepikgccmcaaDoor
