/-
  Contracts of wire.Text and of the reference's DecodeText (layer 3).
-/
import Derived.Test.YtealjcpgcghfpaaWir4
namespace Go.Proofs.Ytealjcpgcghfpaa
open Go.RowKit

/-- What decoding a text gives, as the walk's values. -/
def dt (l : List UInt8) : ByteArray := bs (decT l).1
def dtn (l : List UInt8) : Int := ((decT l).2.1 : Int)
def dte (l : List UInt8) : Int := ((decT l).2.2 : Int)
theorem t_of {l s : List UInt8} {n e : Nat} (h : decT l = (s, n, e)) : dt l = bs s ∧ dtn l = (n : Int) ∧ dte l = (e : Int) := by
  unfold dt dtn dte
  rw [h]
  exact ⟨rfl, rfl, rfl⟩
theorem t_zero {l : List UInt8} (h : dte l = 0) : 1 ≤ dtn l ∧ dtn l ≤ l.length ∧ encT (ls (dt l)) = l.take (dtn l).toNat ∧ (dt l).size ≤ 4096 := by
  have h0 : (decT l).2.2 = 0 := by unfold dte at h; omega
  obtain ⟨h1, h2, h3, h4⟩ := decT_canon h0
  unfold dt dtn
  exact ⟨by omega, by omega, by rw [ls_bs]; simpa using h3, by rw [bs_size]; exact h4⟩
attribute [irreducible] dt dtn dte
theorem t_bad {l : List UInt8} (h : de l ≠ 0) : dt l = bs [] ∧ dtn l = 0 ∧ dte l = de l := by
  have h0 : (dec l).2.2 ≠ 0 := by unfold de at h; omega
  have hd : decT l = ([], 0, (dec l).2.2) := by unfold decT; rw [if_pos h0]
  obtain ⟨h1, h2, h3⟩ := t_of hd
  exact ⟨h1, by simpa using h2, by rw [h3]; unfold de; rfl⟩
theorem t_good {l : List UInt8} (h : de l = 0) : (dec l).2.2 = 0 ∧ dv l = ((dec l).1 : Int) ∧ dn l = ((dec l).2.1 : Int) := by
  refine ⟨?_, by unfold dv; rfl, by unfold dn; rfl⟩
  unfold de at h
  omega
theorem t_limit {l : List UInt8} (h : de l = 0) (h1 : 4096 < dv l) : dt l = bs [] ∧ dtn l = 0 ∧ dte l = 3 := by
  obtain ⟨g1, g2, g3⟩ := t_good h
  have hd : decT l = ([], 0, 3) := by unfold decT; rw [if_neg (by omega), if_pos (by omega)]
  simpa using t_of hd
theorem t_short {l : List UInt8} (h : de l = 0) (h1 : dv l ≤ 4096) (h2 : (l.length : Int) < dn l + dv l) : dt l = bs [] ∧ dtn l = 0 ∧ dte l = 5 := by
  obtain ⟨g1, g2, g3⟩ := t_good h
  have hd : decT l = ([], 0, 5) := by unfold decT; rw [if_neg (by omega), if_neg (by omega), if_pos (by omega)]
  simpa using t_of hd
theorem t_ok {l : List UInt8} (h : de l = 0) (h1 : dv l ≤ 4096) (h2 : dn l + dv l ≤ (l.length : Int)) {s k : Nat} (hs : dn l = (s : Int)) (hk : dv l = (k : Int)) : dt l = bs ((l.drop s).take k) ∧ dtn l = dn l + dv l ∧ dte l = 0 := by
  obtain ⟨g1, g2, g3⟩ := t_good h
  have hd : decT l = ((l.drop (dec l).2.1).take (dec l).1, (dec l).2.1 + (dec l).1, 0) := by unfold decT; rw [if_neg (by omega), if_neg (by omega), if_neg (by omega)]
  obtain ⟨e1, e2, e3⟩ := t_of hd
  refine ⟨?_, ?_, e3⟩
  · rw [e1, show (dec l).2.1 = s by omega, show (dec l).1 = k by omega]
  · rw [e2]; push_cast; omega

/-- A part of a slice that reads as a list. -/
theorem Has.part {w : World} {B n b off : Nat} {xs : List Value} (h : Has w B (some ⟨b, off, none⟩) n xs) (s k : Nat) (hs : s + k ≤ n) : Has w B (some ⟨b, off + s, none⟩) k ((xs.drop s).take k) :=
  ⟨by have := h.1; simp; omega, fun h0 => by
    obtain ⟨b', off', e, hb, hc⟩ := h.2 (by omega)
    injection e with e
    injection e with e1 e2 _
    subst e1 e2
    refine ⟨b, off + s, rfl, hb, fun j hj => ?_⟩
    have hj' : j < k := by simp at hj; omega
    have := hc (s + j) (by have := h.1; omega)
    rw [← Nat.add_assoc] at this
    rw [this]
    simp⟩

set_option maxHeartbeats 2000000 in
theorem text_any (A : Option Addr) (len cap B : Nat) (l : List UInt8) (w : World) (hA : Has w B A len (l.map bv)) (hlc : len ≤ cap) (hcap : cap ≤ maxLen) (hlen : len ≤ 1000000000) :
    Calls Try.prog 19 #[.slice A len cap] w fun e w' => e = .returned (.tuple #[.string (dt l), .int .i64 (dtn l), .int .i64 (dte l)]) ∧ w = w' := by
  have hcall := uint_any A len cap B l w hA hlc hlen
  have HL : Hid (l.length = len) := by show _ = _; simpa using hA.1
  have HA := Lib.hid hA
  clear hA
  have hv0 := dv_ge l
  have hv1 := dv_lt l
  have hn0 := dn_ge l
  have he0 := de_ge l
  by_cases hbad : de l = 0
  · obtain ⟨hn1, hn2, hn3⟩ : 1 ≤ dn l ∧ dn l ≤ l.length ∧ dn l ≤ 10 := by
      obtain ⟨_, h1, h2, h3, _⟩ := d_zero hbad
      exact ⟨h1, h2, h3⟩
    rw [HL.out] at hn2
    have hz : (de l != 0) = false := by rw [hbad]; rfl
    by_cases hlim : 4096 < dv l
    · have HT := Lib.hid (t_limit hbad hlim)
      have HB := Lib.hid hbad
      clear hbad
      go_enter Try.func19, Try.ntmps19
      go_wp2_with fail
      refine hcall.mono ?_
      rintro e w' ⟨rfl, rfl⟩
      go_wp2
      go_ret3
      exact ⟨by rw [HT.out.1, HT.out.2.1, HT.out.2.2]; rfl, rfl⟩
    · by_cases hsh : (len : Int) < dn l + dv l
      · have HT := Lib.hid (t_short hbad (by omega) (by rw [HL.out]; exact hsh))
        have hsh2 : (len : Int) - dn l < dv l := by omega
        have HB := Lib.hid hbad
        clear hbad
        go_enter Try.func19, Try.ntmps19
        go_wp2_with fail
        refine hcall.mono ?_
        rintro e w' ⟨rfl, rfl⟩
        go_wp2
        go_ret3
        exact ⟨by rw [HT.out.1, HT.out.2.1, HT.out.2.2]; rfl, rfl⟩
      · obtain ⟨s, hs⟩ : ∃ s : Nat, dn l = (s : Int) := ⟨(dn l).toNat, by omega⟩
        obtain ⟨k, hk⟩ : ∃ k : Nat, dv l = (k : Int) := ⟨(dv l).toNat, by omega⟩
        have HT := Lib.hid (t_ok hbad (by omega) (by rw [HL.out]; omega) hs hk)
        have HB := Lib.hid hbad
        clear hbad
        obtain ⟨b, off, rfl⟩ : ∃ b off, A = some ⟨b, off, none⟩ := by
          obtain ⟨b, off, e, _⟩ := HA.out.at_ (show 0 < len by omega)
          exact ⟨b, off, e⟩
        obtain ⟨E, hE⟩ : ∃ E : Nat, E = s + k := ⟨_, rfl⟩
        rw [hs, hk] at hcall hsh
        rw [hk] at hlim
        rw [hs] at hn0 hn1 hn2 hn3
        rw [hk] at hv0 hv1
        have hsum : (s : Int) + (k : Int) = (E : Int) := by omega
        have hEs : E - s = k := by omega
        have hsE : s ≤ E := by omega
        have hEl : E ≤ len := by omega
        have hEc : E ≤ cap := by omega
        have hsh3 : ¬ (len : Int) < (E : Int) := by omega
        have hsh4 : ¬ (len : Int) - (s : Int) < (k : Int) := by omega
        have HS := Lib.hid hs
        have HK := Lib.hid hk
        have HE := Lib.hid hE
        clear hs hk hE
        have hkb : (k : Int) ≤ 4096 := by omega
        clear hv1 hlim
        by_cases hcs : cap = s
        · have hk0 : k = 0 := by have := HE.out; omega
          have hE2 : E = s := by have := HE.out; omega
          have hconv : ∀ ad, (convert 22 9 (.slice (some ad) 0 0)).run Try.prog w = .ok (.string (bs [])) w := fun ad => str_has w (some ad) 0 0 w.heap.size [] (Has.nil _ _ _)
          subst hk0 hE2 hcs
          go_enter Try.func19, Try.ntmps19
          go_wp2_with fail
          refine hcall.mono ?_
          rintro e w' ⟨rfl, rfl⟩
          go_wp2
          go_ret3
          exact ⟨by rw [HT.out.1, HT.out.2.1, HT.out.2.2, HS.out, HK.out]; simp, rfl⟩
        · have hp := HA.out.part s k (by omega)
          rw [← List.map_drop, ← List.map_take] at hp
          have hconv := str_has w _ k (cap - s) _ _ hp
          have hcs' : ¬ cap - s = 0 := by omega
          go_enter Try.func19, Try.ntmps19
          go_wp2_with fail
          refine hcall.mono ?_
          rintro e w' ⟨rfl, rfl⟩
          go_wp2
          go_ret3
          exact ⟨by rw [HT.out.1, HT.out.2.1, HT.out.2.2, HS.out, HK.out, hsum]; rfl, rfl⟩
  · have HT := Lib.hid (t_bad hbad)
    have hz : (de l != 0) = true := by simpa using hbad
    clear hbad
    go_enter Try.func19, Try.ntmps19
    go_wp2_with fail
    refine hcall.mono ?_
    rintro e w' ⟨rfl, rfl⟩
    go_wp2
    go_ret3
    exact ⟨by rw [HT.out.1, HT.out.2.1, HT.out.2.2]; rfl, rfl⟩

set_option maxHeartbeats 2000000 in
theorem refDecText_any (A : Option Addr) (len cap B : Nat) (l : List UInt8) (w : World) (hA : Has w B A len (l.map bv)) (hlc : len ≤ cap) (hcap : cap ≤ maxLen) (hlen : len ≤ 1000000000) :
    Calls Try.prog 20 #[.slice A len cap] w fun e w' => e = .returned (.tuple #[.string (dt l), .int .i64 (dtn l), .int .i64 (dte l)]) ∧ w = w' := by
  have hcall := refDecUint_any A len cap B l w hA hlen
  have HL : Hid (l.length = len) := by show _ = _; simpa using hA.1
  have HA := Lib.hid hA
  clear hA
  have hv0 := dv_ge l
  have hv1 := dv_lt l
  have hn0 := dn_ge l
  have he0 := de_ge l
  by_cases hbad : de l = 0
  · obtain ⟨hn1, hn2, hn3⟩ : 1 ≤ dn l ∧ dn l ≤ l.length ∧ dn l ≤ 10 := by
      obtain ⟨_, h1, h2, h3, _⟩ := d_zero hbad
      exact ⟨h1, h2, h3⟩
    rw [HL.out] at hn2
    have hz : (de l != 0) = false := by rw [hbad]; rfl
    by_cases hlim : 4096 < dv l
    · have HT := Lib.hid (t_limit hbad hlim)
      have HB := Lib.hid hbad
      clear hbad
      go_enter Try.func20, Try.ntmps20
      go_wp2_with fail
      refine hcall.mono ?_
      rintro e w' ⟨rfl, rfl⟩
      go_wp2
      go_ret3
      exact ⟨by rw [HT.out.1, HT.out.2.1, HT.out.2.2]; rfl, rfl⟩
    · by_cases hsh : (len : Int) < dn l + dv l
      · have HT := Lib.hid (t_short hbad (by omega) (by rw [HL.out]; exact hsh))
        have hsh2 : (len : Int) - dn l < dv l := by omega
        have HB := Lib.hid hbad
        clear hbad
        go_enter Try.func20, Try.ntmps20
        go_wp2_with fail
        refine hcall.mono ?_
        rintro e w' ⟨rfl, rfl⟩
        go_wp2
        go_ret3
        exact ⟨by rw [HT.out.1, HT.out.2.1, HT.out.2.2]; rfl, rfl⟩
      · obtain ⟨s, hs⟩ : ∃ s : Nat, dn l = (s : Int) := ⟨(dn l).toNat, by omega⟩
        obtain ⟨k, hk⟩ : ∃ k : Nat, dv l = (k : Int) := ⟨(dv l).toNat, by omega⟩
        have HT := Lib.hid (t_ok hbad (by omega) (by rw [HL.out]; omega) hs hk)
        have HB := Lib.hid hbad
        clear hbad
        obtain ⟨b, off, rfl⟩ : ∃ b off, A = some ⟨b, off, none⟩ := by
          obtain ⟨b, off, e, _⟩ := HA.out.at_ (show 0 < len by omega)
          exact ⟨b, off, e⟩
        obtain ⟨E, hE⟩ : ∃ E : Nat, E = s + k := ⟨_, rfl⟩
        rw [hs, hk] at hcall hsh
        rw [hk] at hlim
        rw [hs] at hn0 hn1 hn2 hn3
        rw [hk] at hv0 hv1
        have hsum : (s : Int) + (k : Int) = (E : Int) := by omega
        have hEs : E - s = k := by omega
        have hsE : s ≤ E := by omega
        have hEl : E ≤ len := by omega
        have hEc : E ≤ cap := by omega
        have hsh3 : ¬ (len : Int) < (E : Int) := by omega
        have hsh4 : ¬ (len : Int) - (s : Int) < (k : Int) := by omega
        have HS := Lib.hid hs
        have HK := Lib.hid hk
        have HE := Lib.hid hE
        clear hs hk hE
        have hkb : (k : Int) ≤ 4096 := by omega
        clear hv1 hlim
        by_cases hcs : cap = s
        · have hk0 : k = 0 := by have := HE.out; omega
          have hE2 : E = s := by have := HE.out; omega
          have hconv : ∀ ad, (convert 22 9 (.slice (some ad) 0 0)).run Try.prog w = .ok (.string (bs [])) w := fun ad => str_has w (some ad) 0 0 w.heap.size [] (Has.nil _ _ _)
          subst hk0 hE2 hcs
          go_enter Try.func20, Try.ntmps20
          go_wp2_with fail
          refine hcall.mono ?_
          rintro e w' ⟨rfl, rfl⟩
          go_wp2
          go_ret3
          exact ⟨by rw [HT.out.1, HT.out.2.1, HT.out.2.2, HS.out, HK.out]; simp, rfl⟩
        · have hp := HA.out.part s k (by omega)
          rw [← List.map_drop, ← List.map_take] at hp
          have hconv := str_has w _ k (cap - s) _ _ hp
          have hcs' : ¬ cap - s = 0 := by omega
          go_enter Try.func20, Try.ntmps20
          go_wp2_with fail
          refine hcall.mono ?_
          rintro e w' ⟨rfl, rfl⟩
          go_wp2
          go_ret3
          exact ⟨by rw [HT.out.1, HT.out.2.1, HT.out.2.2, HS.out, HK.out, hsum]; rfl, rfl⟩
  · have HT := Lib.hid (t_bad hbad)
    have hz : (de l != 0) = true := by simpa using hbad
    clear hbad
    go_enter Try.func20, Try.ntmps20
    go_wp2_with fail
    refine hcall.mono ?_
    rintro e w' ⟨rfl, rfl⟩
    go_wp2
    go_ret3
    exact ⟨by rw [HT.out.1, HT.out.2.1, HT.out.2.2]; rfl, rfl⟩

end Go.Proofs.Ytealjcpgcghfpaa
