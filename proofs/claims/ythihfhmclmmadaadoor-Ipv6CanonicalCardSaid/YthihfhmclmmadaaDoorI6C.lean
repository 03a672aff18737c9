/-
  The walk of Ipv6Canonical: it returns true (written by tools/gen-I6C.py).
-/
import Derived.Test.YthihfhmclmmadaaDoorI6B
import Derived.Test.YthihfhmclmmadaaDoorI6R
namespace Go.Proofs.YthihfhmclmmadaaDoor
open Go.RowKit

def pcD (l : List UInt8) (k : Nat) : Bool := decide (0 < k) && l.getD (k - 1) 0 == 58
def pcL (l : List UInt8) (k : Nat) : Bool := decide (k = 0) || l.getD (k - 1) 0 == 58
theorem pcD_succ (l : List UInt8) (k : Nat) : pcD l (k + 1) = (l.getD k 0 == 58) := by unfold pcD; simp
theorem pcL_succ (l : List UInt8) (k : Nat) : pcL l (k + 1) = (l.getD k 0 == 58) := by unfold pcL; simp
/-- How far the loop has come. -/
structure Cn (l : List UInt8) (k z : Nat) : Prop where
  dp : z + dpC (pcD l k) (l.drop k) ≤ 1
  ld : leadC (pcL l k) (l.drop k) = true
theorem drop_getD (l : List UInt8) (k : Nat) (h : k < l.length) : l.drop k = l.getD k 0 :: l.drop (k + 1) := by
  rw [List.drop_eq_getElem_cons h, List.getD_eq_getElem?_getD, List.getElem?_eq_getElem h, Option.getD_some]
theorem Cn.next {l : List UInt8} {k z : Nat} (h : Cn l k z) (hk : k < l.length) : Cn l (k + 1) (z + (if pcD l k && l.getD k 0 == 58 then 1 else 0)) := by
  have h1 := h.dp
  have h2 := h.ld
  rw [drop_getD l k hk, dpC] at h1
  rw [drop_getD l k hk, leadC, Bool.and_eq_true] at h2
  refine ⟨?_, ?_⟩
  · rw [pcD_succ]; omega
  · rw [pcL_succ]; exact h2.2
theorem Cn.zero {l : List UInt8} {k z : Nat} (h : Cn l k z) (hk : k < l.length) (h48 : l.getD k 0 = 48) (hp : pcL l k = true) : k + 1 = l.length ∨ (k + 1 < l.length ∧ l.getD (k + 1) 0 = 58) := by
  have h2 := h.ld
  rw [drop_getD l k hk, leadC, Bool.and_eq_true, h48, hp] at h2
  have h3 := h2.1
  simp only [Bool.true_and, beq_self_eq_true, if_true] at h3
  rcases Nat.lt_or_ge (k + 1) l.length with hl | hl
  · rw [drop_getD l (k + 1) hl, nextC] at h3
    exact .inr ⟨hl, by simpa using h3⟩
  · exact .inl (by omega)
theorem Cn.le {l : List UInt8} {k z : Nat} (h : Cn l k z) : z ≤ 1 := by have := h.dp; omega
theorem byte_at (X : ByteArray) (k : Nat) (h : k < X.size) : (ls X).getD k 0 = X[k] := by
  have hk : k < (ls X).length := by rw [ls_length]; exact h
  rw [List.getD_eq_getElem?_getD, List.getElem?_eq_getElem hk, Option.getD_some]
  exact ls_getE X k h _
theorem u8_of_nat {c : UInt8} {n : Nat} (h : c.toNat = n) (d : UInt8) (hd : d.toNat = n) : c = d := UInt8.toNat_inj.1 (by omega)

set_option maxRecDepth 20000 in
set_option maxHeartbeats 16000000 in
theorem walk6Can (hP : P6Par 8) (hF : P6Fmt 10) (a : List Nat) (w : World) (ha : a.length = 8 ∧ G16 a) (hpw : Pow6 w) :
    Calls Tryd.prog 6 #[.agg (av a)] w (Yes w) := by
  obtain ⟨ha8, hag⟩ := ha
  have c1 := fun W hh => hF a ha8 hag W hh
  have c9 := awake11_any hP hF
  obtain ⟨hl1, hl2⟩ := len_fmt6 a hag ha8
  have HOK := Lib.hid (ok_fmt6 a hag)
  have HC0 : Hid (Cn (fmt6 a) 0 0) := Lib.hid ⟨by show 0 + dpC false (fmt6 a) ≤ 1; have := dp_fmt6 a hag ha8; omega, lead_fmt6 a hag ha8⟩
  obtain ⟨X, hX⟩ : ∃ X, X = bs (fmt6 a) := ⟨_, rfl⟩
  have hlX : ls X = fmt6 a := by rw [hX, ls_bs]
  have hsX : X.size = (fmt6 a).length := by rw [hX, bs_size]
  rw [← hX] at c1
  rw [← hlX] at HOK HC0
  rw [← hsX] at hl1 hl2
  clear hP hF hX hlX hsX
  have hd2 : decide ((2 : Int) ≤ (X.size : Int)) = true := decide_eq_true (by omega)
  have hd39 : decide ((X.size : Int) ≤ 39) = true := decide_eq_true (by omega)
  go_enter Tryd.func6, Tryd.ntmps6
  go_wp2_with (first | (refine wpList_box_arr _ rfl 1 rfl _ _ rfl _ (av a) (by exact rfl) (by exact rfl) ?_; intro W1 b1 hg1 hl1 hR1 hG1; have hb1 := below_row0 (Below.refl w.heap.size w) hG1 (Nat.le_refl _)) | (refine wpList_load_arr _ rfl _ _ rfl b1 (by exact rfl) _ (av a) hR1 8 _ tyA8 (sizeA a ha8) ?_))
  refine (c1 _ (pow6_below hpw hb1)).mono ?_
  rintro r w2 ⟨rfl, hb2⟩
  have HB2 := Lib.hid (hb1.trans (hb2.mono hb1.size))
  clear hb1 hb2 hR1 hG1 hg1 c1
  go_wp2
  go_loop [4, 5] (fun d i => ∃ (k z : Nat), k ≤ X.size ∧ i = .int .i64 k ∧ d = .int .i64 z ∧ z ≤ 1 ∧ Hid (Cn (ls X) k z)) (fun _ i => X.size - (intOf i).toNat)
  case atStart => exact ⟨0, 0, Nat.zero_le _, rfl, rfl, Nat.zero_le _, HC0⟩
  case round =>
    obtain ⟨k, z, hk, rfl, rfl, hz, HC⟩ := hrel
    by_cases hlt : k < X.size
    · have hkl : k < (ls X).length := by rw [ls_length]; exact hlt
      have HNX := Lib.hid (HC.out.next hkl)
      have HBY := Lib.hid (byte_at X k hlt)
      have HOY : Hid (okC X[k] = true) := by
        have := List.all_eq_true.1 HOK.out ((ls X).getD k 0) (by rw [List.getD_eq_getElem?_getD, List.getElem?_eq_getElem hkl, Option.getD_some]; exact List.getElem_mem hkl)
        rw [HBY.out] at this
        exact Lib.hid this
      have HCL : Hid (X[k].toNat = 58 ∨ X[k].toNat = 48 ∨ (49 ≤ X[k].toNat ∧ X[k].toNat ≤ 57) ∨ (97 ≤ X[k].toNat ∧ X[k].toNat ≤ 102)) := by
        show _ ∨ _
        have := HOY.out
        unfold okC at this
        simp only [Bool.or_eq_true, Bool.and_eq_true, decide_eq_true_eq, beq_iff_eq] at this
        rcases this with h | h | h
        · omega
        · omega
        · rw [h]; left; rfl
      have HZ := Lib.hid (fun h48 hp => HC.out.zero hkl h48 hp)
      rw [HBY.out, ls_length] at HZ
      have hnx := HNX.out
      rw [HBY.out] at hnx
      by_cases hk0 : k = 0
      · obtain rfl : k = 0 := hk0
        have HNE : Hid (Cn (ls X) 1 z) := by
          rw [show pcD (ls X) 0 = false from rfl] at hnx
          exact Lib.hid hnx
        have HZR : Hid (X[0].toNat = 48 → 0 + 1 = X.size ∨ (∃ h : 0 + 1 < X.size, X[0 + 1].toNat = 58)) := by
          show _ → _
          intro h48
          rcases HZ.out (u8_of_nat h48 48 rfl) rfl with h | ⟨h, h'⟩
          · exact .inl h
          · rw [byte_at X (0 + 1) h] at h'
            exact .inr ⟨h, by rw [h']; rfl⟩
        clear hnx HZ
        go_wp2
        all_goals first
          | (exfalso; have e1 := HCL.out; omega)
          | (exfalso; have g := ‹_ ∧ (!((X[0].toNat : Int) == 58)) = true›; have g2 := g.2; have e1 := HCL.out; simp only [Bool.not_eq_true', beq_eq_false_iff_ne, ne_eq] at g2; omega)
          | (exfalso; have e1 := HZR.out (by omega); have g := ‹((X[0 + 1].toNat : Int) != 58) = true›; simp only [bne_iff_ne, ne_eq] at g; rcases e1 with e1 | ⟨h, e1⟩ <;> omega)
          | (refine ⟨⟨0 + 1, z, by omega, by go_num, rfl, hz, Lib.hid HNE.out⟩, ?_⟩; simp [intOf]; omega)
      · obtain ⟨q, hq⟩ : ∃ q, k = q + 1 := ⟨k - 1, by omega⟩
        have hqi : (k : Int) - 1 = (q : Int) := by omega
        have hqX : q < X.size := by omega
        have hkp : (0 : Int) < (k : Int) := by omega
        have hkd : decide ((0 : Int) < (k : Int)) = true := decide_eq_true hkp
        have hke : ((k : Int) == 0) = false := by simp; exact hk0
        have hpd : pcD (ls X) k = (X[q] == 58) := by rw [hq, pcD_succ, byte_at X q hqX]
        have hpl : pcL (ls X) k = (X[q] == 58) := by rw [hq, pcL_succ, byte_at X q hqX]
        rw [hpd] at hnx
        rw [hpl] at HZ
        have HNE : Hid (¬ (X[q].toNat = 58 ∧ X[k].toNat = 58) → Cn (ls X) (k + 1) z) := by
          show _ → _
          intro hne
          rw [if_neg (by rw [Bool.and_eq_true, beq_iff_eq, beq_iff_eq]; rintro ⟨h1, h2⟩; exact hne ⟨congrArg UInt8.toNat h1, congrArg UInt8.toNat h2⟩), Nat.add_zero] at hnx
          exact hnx
        have HNP : Hid (X[q].toNat = 58 ∧ X[k].toNat = 58 → Cn (ls X) (k + 1) (z + 1)) := by
          show _ → _
          rintro ⟨h1, h2⟩
          rw [if_pos (by rw [Bool.and_eq_true, beq_iff_eq, beq_iff_eq]; exact ⟨u8_of_nat h1 58 rfl, u8_of_nat h2 58 rfl⟩)] at hnx
          exact hnx
        have HZR : Hid (X[k].toNat = 48 → X[q].toNat = 58 → k + 1 = X.size ∨ (∃ h : k + 1 < X.size, X[k + 1].toNat = 58)) := by
          show _ → _ → _
          intro h48 hp
          rcases HZ.out (u8_of_nat h48 48 rfl) (by rw [u8_of_nat hp 58 rfl]; rfl) with h | ⟨h, h'⟩
          · exact .inl h
          · rw [byte_at X (k + 1) h] at h'
            exact .inr ⟨h, by rw [h']; rfl⟩
        have HQ := Lib.hid hq
        clear hnx HZ hpd hpl hq hk0
        go_wp2
        all_goals first
          | (exfalso; have e1 := HCL.out; omega)
          | (exfalso; have g := ‹_ ∧ (!((X[k].toNat : Int) == 58)) = true›; have g2 := g.2; have e1 := HCL.out; simp only [Bool.not_eq_true', beq_eq_false_iff_ne, ne_eq] at g2; omega)
          | (exfalso; have e1 := HZR.out (by omega) (by omega); have g := ‹((X[k + 1].toNat : Int) != 58) = true›; simp only [bne_iff_ne, ne_eq] at g; rcases e1 with e1 | ⟨h, e1⟩ <;> omega)
          | (refine ⟨⟨k + 1, z, by omega, by go_num, rfl, hz, Lib.hid (HNE.out (by omega))⟩, ?_⟩; simp [intOf]; omega)
          | (have g := ‹((X[q].toNat : Int) == 58) = true›; rw [beq_iff_eq] at g; have e1 := HNP.out (by omega); refine ⟨⟨k + 1, z + 1, by omega, by go_num, by go_num, e1.le, Lib.hid e1⟩, ?_⟩; simp [intOf]; omega)
          | (have g := ‹((X[q].toNat : Int) == 58) = false›; rw [beq_eq_false_iff_ne] at g; refine ⟨⟨k + 1, z, by omega, by go_num, rfl, hz, Lib.hid (HNE.out (by omega))⟩, ?_⟩; simp [intOf]; omega)
          | (have e1 := HNP.out (by omega); refine ⟨⟨k + 1, z + 1, by omega, by go_num, by go_num, e1.le, Lib.hid e1⟩, ?_⟩; simp [intOf]; omega)
    · obtain rfl : k = X.size := by omega
      have hdz : decide ((z : Int) ≤ 1) = true := decide_eq_true (by omega)
      go_wp2_with (go_at_call 7; refine (c9 _ (pow6_below hpw HB2.out)).mono ?_; rintro r w3 ⟨rfl, hb3⟩)
      go_ret
      exact ⟨rfl, HB2.out.trans (hb3.mono HB2.out.size)⟩

end Go.Proofs.YthihfhmclmmadaaDoor
