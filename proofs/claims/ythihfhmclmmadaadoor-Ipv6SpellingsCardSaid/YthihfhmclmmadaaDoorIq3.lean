/-
  Contracts of Format and Parse of package ipv4; strconv.AppendUint.
-/
import Derived.Test.YthihfhmclmmadaaDoorIq2
import Derived.Test.YthihfhmclmmadaaDoorPowI
import Derived.Test.YthihfhmclmmadaaDoorMkZ
namespace Go.Proofs.YthihfhmclmmadaaDoor
open Go.RowKit

theorem tabN_eq : tabN = "internal/strconv.uint64pow10" := rfl
theorem append_any (B n u : Nat) (hu : u < 18446744073709551616) (sv : Value) (l : List UInt8) (w : World) (hp : Pow w) (hown : w.ownsRow B 5 1 sv n (l.map bv)) (hB : B ≤ w.heap.size) (hn : n ≤ 1000000000) :
    Calls Tryd.prog 34 #[sv, .int .u64 u, .int .i64 10] w fun e w' => ∃ v', e = .returned v' ∧ w'.ownsRow B 5 1 v' (n + (Lib.decDigits u).length) ((l ++ Lib.decDigits u).map bv) ∧ Below B w w' := by
  have c1 := Any.internal_strconv_AppendUint_10 Tryd.laysM288 B n u hu sv (l.map bv) w hown hB (by omega) hp
  have HM : Hid (∀ m : List UInt8, l.map bv ++ Lib.byteCells m = (l ++ m).map bv) := by
    show ∀ m : List UInt8, _ = _
    intro m
    rw [List.map_append]
    rfl
  clear hown hp
  go_enter Tryd.func34, Tryd.ntmps34
  go_wp2_with fail
  refine c1.mono ?_
  rintro e w' ⟨v', rfl, h1, h2, _⟩
  rw [HM.out] at h1
  go_wp2
  go_ret
  exact ⟨_, rfl, h1, h2⟩

set_option maxRecDepth 20000 in
set_option maxHeartbeats 4000000 in
theorem fmt_any (v : Int) (hv0 : 0 ≤ v) (hv1 : v < 4294967296) (w : World) (hp : Pow w) :
    Calls Tryd.prog 29 #[.int .u32 v] w fun e w' => e = .returned (.string (bs (fmtI v.toNat))) ∧ Below w.heap.size w w' := by
  obtain ⟨i5, hi5, hz0, hz1, hz2⟩ := info_parts infoU8
  have hF : fmtF v.toNat 4 = fmtI v.toNat := fmtF_all _ (by omega)
  have HF := Lib.hid hF
  clear hF
  go_enter Tryd.func29, Tryd.ntmps29
  go_wp2_with (refine wpList_make_room _ rfl _ _ rfl 15 rfl rfl (by decide) (by decide) ?_; intro v0 w0 hown0 hb0)
  go_loopg [3, 7] 4 (fun g t i wr => ∃ k : Nat, k ≤ 4 ∧ g = 4 - k ∧ i = .int .i64 k ∧ wr.ownsRow w.heap.size 5 1 t (fmtF v.toNat k).length ((fmtF v.toNat k).map bv) ∧ Below w.heap.size w wr)
  case atStart => exact ⟨0, by omega, rfl, rfl, hown0, hb0⟩
  case round =>
    obtain ⟨k, hk, hg, rfl, hown, hb⟩ := hrel
    have HG := Lib.hid hg
    clear hg
    have hlen := fmtF_length v.toNat k
    by_cases hk4 : k < 4
    · obtain ⟨K, hK⟩ : ∃ K, K = 8 * (3 - k) := ⟨_, rfl⟩
      have hKK : (8 : Int) * (3 - (k : Int)) = (K : Int) := by omega
      have hK32 : K ≤ 32 := by omega
      obtain ⟨r, hr⟩ : ∃ r : Nat, r = v.toNat / 2 ^ K := ⟨_, rfl⟩
      have hrv : v / 2 ^ K = (r : Int) := by
        rw [hr, Int.natCast_ediv, Int.natCast_pow, show ((v.toNat : Nat) : Int) = v by omega]
        rfl
      have HR := Lib.hid hrv
      have hrb : r < 4294967296 := by
        rw [hr]
        exact Nat.lt_of_le_of_lt (Nat.div_le_self _ _) (by omega)
      obtain ⟨u, hu⟩ : ∃ u, u = r % 256 := ⟨_, rfl⟩
      have hand : bits .and .u64 (r : Int) 255 = (u : Int) := by
        have := u64_and_nat r 255 (by omega) (by omega)
        rw [show ((255 : Nat) : Int) = 255 from rfl] at this
        rw [this, hu, show 255 = 2 ^ 8 - 1 from rfl, Nat.and_two_pow_sub_one_eq_mod]
      have hwr : IntKind.u64.wrap (r : Int) = (r : Int) := by rw [IntKind.wrap_u64]; omega
      have hdec : Lib.decDigits (v.toNat / 256 ^ (3 - k) % 256) = Lib.decDigits u := by
        rw [hu, hr, hK, Nat.pow_mul]
      have hub : u < 256 := by omega
      have hdl := dec_len3 u hub
      by_cases h0 : k = 0
      · have HN : Hid (fmtF v.toNat (k + 1) = fmtF v.toNat k ++ Lib.decDigits u) := by
          show _ = _
          rw [fmtF, hdec, if_pos h0]
          rfl
        have hd : decide ((0 : Int) < (k : Int)) = false := decide_eq_false (by omega)
        have hdN : decide (0 < k) = false := decide_eq_false (by omega)
        have HU := Lib.hid (show u < 18446744073709551616 by omega)
        clear hK hr hrv hu hdec h0
        go_wp2_with (refine wpList_shr32 _ rfl _ _ _ _ rfl (by kernel_rfl) _ K hK32 (by exact rfl) (by exact rfl) _ HR.out ?_)
        refine (append_any w.heap.size _ u HU.out _ _ _ (pow_below hp hb) hown hb.size (by omega)).mono ?_
        rintro e w1 ⟨v1, rfl, hown1, hb1⟩
        replace hb1 := hb.trans hb1
        have hl : (fmtF v.toNat (k + 1)).length = (fmtF v.toNat k).length + (Lib.decDigits u).length := by rw [HN.out, List.length_append]
        rw [← HN.out, ← hl] at hown1
        go_wp2
        go_roundg (4 - (k + 1))
        case rel => exact ⟨k + 1, by omega, rfl, by go_num, hown1, hb1⟩
        case measure => rw [HG.out]; omega
      · have HN : Hid (fmtF v.toNat (k + 1) = (fmtF v.toNat k ++ [46]) ++ Lib.decDigits u) := by
          show _ = _
          rw [fmtF, hdec, if_neg h0, List.append_assoc]
        have hd : decide ((0 : Int) < (k : Int)) = true := decide_eq_true (by omega)
        have hdN : decide (0 < k) = true := decide_eq_true (by omega)
        have HU := Lib.hid (show u < 18446744073709551616 by omega)
        clear hK hr hrv hu hdec h0
        go_wp2_with (at_builtin; refine wpList_app_one wr rfl _ _ 60 rfl w.heap.size 5 i5 (.int .u8 0) 1 tyBs hi5 hz0 hz1 hz2 rfl _ (by exact rfl) _ _ _ (by exact rfl) hown (by exact rfl) (by unfold maxLen; omega) (by omega) hb (Nat.le_refl _) ?_; intro v2 w2 hown2 hb2 hgr)
        rw [show (fmtF v.toNat k).map bv ++ [Value.int .u8 46] = (fmtF v.toNat k ++ [46]).map bv by rw [List.map_append]; rfl] at hown2
        go_wp2_with fail
        rw [HR.out, hwr, hand]
        refine (append_any w.heap.size _ u HU.out _ _ _ (pow_below hp hb2) hown2 hb2.size (by omega)).mono ?_
        rintro e w1 ⟨v1, rfl, hown1, hb1⟩
        replace hb1 := hb2.trans hb1
        have hl : (fmtF v.toNat (k + 1)).length = (fmtF v.toNat k).length + 1 + (Lib.decDigits u).length := by rw [HN.out, List.length_append, List.length_append]; rfl
        rw [← HN.out, ← hl] at hown1
        go_wp2
        go_roundg (4 - (k + 1))
        case rel => exact ⟨k + 1, by omega, rfl, by go_num, hown1, hb1⟩
        case measure => rw [HG.out]; omega
    · obtain rfl : k = 4 := by omega
      have hconv := str_owned wr _ _ _ _ hown
      rw [HF.out] at hconv
      go_wp2
      go_ret
      exact ⟨rfl, hb⟩

theorem par_any (s : ByteArray) (w : World) (hs : s.size ≤ 1000000000) (hp : Pow w) :
    Calls Tryd.prog 17 #[.string s] w fun e w' => e = .returned (.tuple #[.int .u32 (aV (parseL (ls s))), .bool (aK (parseL (ls s)))]) ∧ Below w.heap.size w w' := by
  have c1 := pn_any s hs w
  cases hq : pnL (ls s) with
  | none =>
    have HE : Hid (parseL (ls s) = none) := by show _ = _; rw [parse_pn, hq]
    rw [hq, show aV (none : Option Nat) = 0 from rfl, show aK (none : Option Nat) = false from rfl] at c1
    clear hq
    go_enter Tryd.func17, Tryd.ntmps17
    go_wp2_with fail
    refine c1.mono ?_
    rintro e w' ⟨rfl, rfl⟩
    go_wp2
    go_ret2
    rw [HE.out]
    exact ⟨rfl, Below.refl _ _⟩
  | some v =>
    have hv := pnL_range hq
    have c2 := fmt_any (v : Int) (by omega) (by omega) w hp
    rw [show ((v : Int)).toNat = v from rfl] at c2
    rw [hq, show aV (some v) = (v : Int) from rfl, show aK (some v) = true from rfl] at c1
    by_cases hf : fmtI v = ls s
    · have HE : Hid (parseL (ls s) = some v) := by show _ = _; rw [parse_pn, hq]; exact if_pos hf
      rw [hf, bs_ls] at c2
      clear hq hf
      go_enter Tryd.func17, Tryd.ntmps17
      go_wp2_with fail
      refine c1.mono ?_
      rintro e w' ⟨rfl, hw⟩
      subst hw
      go_wp2_with fail
      refine c2.mono ?_
      rintro e w2 ⟨rfl, hb⟩
      go_wp2
      go_ret2
      rw [HE.out]
      exact ⟨rfl, hb⟩
    · have HE : Hid (parseL (ls s) = none) := by show _ = _; rw [parse_pn, hq]; exact if_neg hf
      obtain ⟨X, hX⟩ : ∃ X, X = bs (fmtI v) := ⟨_, rfl⟩
      have hne : ¬ X.toList = s.toList := by
        rw [toList_ls, toList_ls, hX, ls_bs]
        exact hf
      have hn2 : (X.toList == s.toList) = false := beq_eq_false_iff_ne.2 hne
      have hn3 : (!X.toList == s.toList) = true := by rw [hn2]; rfl
      rw [← hX] at c2
      clear hq hf hX
      go_enter Tryd.func17, Tryd.ntmps17
      go_wp2_with fail
      refine c1.mono ?_
      rintro e w' ⟨rfl, hw⟩
      subst hw
      go_wp2_with fail
      refine c2.mono ?_
      rintro e w2 ⟨rfl, hb⟩
      go_wp2
      go_ret2
      rw [HE.out]
      exact ⟨rfl, hb⟩

end Go.Proofs.YthihfhmclmmadaaDoor
