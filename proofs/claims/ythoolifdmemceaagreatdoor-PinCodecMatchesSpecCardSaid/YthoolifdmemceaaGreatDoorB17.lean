/-
Contracts of the reference of layer 13: proper, Valid.
Contracts of package label's small functions: isLabelByte, isPlain, isNotBasic, isUpper, and of slices.ContainsFunc with the last two.
Contracts of slices.IndexFunc and slices.ContainsFunc with package label's two tests.
What is said of the text of a list of code points; no function.
textOf of package label.
-/
import Derived.Test.YthoolifdmemceaaGreatDoorB11
import Derived.Test.YthoolifdmemceaaGreatDoorB13
import Derived.Test.YthoolifdmemceaaGreatDoorB16
import Derived.Test.YthoolifdmemceaaGreatDoorB10
import Derived.BigQuiet
import Derived.Deep.QuietTactic
import Derived.Test.YthoolifdmemceaaGreatDoorB07
import Derived.Test.YthoolifdmemceaaGreatDoorB02
import Derived.Deep.LoopGhost
namespace Go.Proofs.YthoolifdmemceaaGreatDoor
section
open Go.RowKit

/-- What is said of the first k code points. -/
def othK (p : List Nat) (k : Nat) : Bool := (p.take k).any (fun x => decide (128 ≤ x))
def bigK (p : List Nat) (k : Nat) : Bool := (p.take k).any bigP
theorem othK_succ (p : List Nat) (k : Nat) (h : k < p.length) : othK p (k + 1) = (othK p k || decide (128 ≤ p[k])) := by
  unfold othK
  rw [List.take_succ_eq_append_getElem h, List.any_append]
  simp
theorem bigK_succ (p : List Nat) (k : Nat) (h : k < p.length) : bigK p (k + 1) = (bigK p k || bigP p[k]) := by
  unfold bigK
  rw [List.take_succ_eq_append_getElem h, List.any_append]
  simp
theorem all_big (p : List Nat) : p.all (fun x => !bigP x) = !(p.any bigP) := by
  induction p with
  | nil => rfl
  | cons x p ih => rw [List.all_cons, List.any_cons, ih, Bool.not_or]
theorem prop_ok {r : List UInt8} {p : List Nat} (h : decL r = .ok p) : propL r = (othK p p.length && !(bigK p p.length) && decide (encB p = r)) := by
  unfold propL othK bigK
  rw [h, List.take_length, ← all_big]
theorem prop_no {r : List UInt8} {c : Nat} (h : decL r = .error c) : propL r = false := by unfold propL; rw [h]
theorem prop_big {r : List UInt8} {p : List Nat} (h : decL r = .ok p) (k : Nat) (hk : k < p.length) (hb : bigP p[k] = true) : propL r = false := by
  rw [prop_ok h]
  have : bigK p p.length = true := by
    unfold bigK
    rw [List.take_length, List.any_eq_true]
    exact ⟨_, List.getElem_mem hk, hb⟩
  rw [this]
  simp
theorem big_of (x : Nat) : bigP x = (decide (65 ≤ x) && decide (x ≤ 90)) := rfl
/-- The four kinds of a code point. -/
theorem kind_of (x : Nat) : (x < 65 ∧ bigP x = false) ∨ (65 ≤ x ∧ x ≤ 90 ∧ bigP x = true) ∨ (90 < x ∧ x < 128 ∧ bigP x = false) ∨ (128 ≤ x ∧ bigP x = false) := by
  rw [big_of]
  by_cases h1 : 65 ≤ x
  · by_cases h2 : x ≤ 90
    · exact .inr (.inl ⟨h1, h2, by rw [decide_eq_true h1, decide_eq_true h2]; rfl⟩)
    · have e : (decide (65 ≤ x) && decide (x ≤ 90)) = false := by rw [decide_eq_false h2, Bool.and_false]
      by_cases h3 : x < 128
      · exact .inr (.inr (.inl ⟨by omega, h3, e⟩))
      · exact .inr (.inr (.inr ⟨by omega, e⟩))
  · exact .inl ⟨by omega, by rw [decide_eq_false h1]; rfl⟩

set_option maxHeartbeats 2000000 in
theorem refProper_any (s : ByteArray) (w : World) :
    Calls Tryz.prog 41 #[.string s] w fun e w' => e = .returned (.bool (propL (ls s))) ∧ Below w.heap.size w w' := by
  have c1 := refDec_any s w
  unfold DecPost at c1
  cases hd : decL (ls s) with
  | error c =>
    have hc := dec_err_ne hd
    obtain ⟨d1, d2⟩ := dec_err hd
    have hcz : ((c : Int) != 0) = true := by rw [bne_iff_ne]; omega
    have hcN : (c != 0) = true := by rw [bne_iff_ne]; exact hc
    rw [d1, d2] at c1
    rw [prop_no hd]
    clear hd d1 d2
    go_enter Tryz.func41, Tryz.ntmps41
    go_wp2_with fail
    refine c1.mono ?_
    rintro e w1 ⟨⟨v, rfl, _⟩, hb⟩
    go_wp2
    go_ret
    exact ⟨rfl, hb⟩
  | ok p =>
    obtain ⟨hP, hpl, _, _⟩ := enc_dec hd
    obtain ⟨d1, d2⟩ := pu_dec_ok hd
    have cE := fun A c B W hA hB => refEnc_any (p.map (fun n : Nat => (n : Int))) A p.length c B W hA hB
    rw [encL_of hP hpl] at cE
    obtain ⟨X, hX⟩ : ∃ X, X = bs (encB p) := ⟨_, rfl⟩
    rw [show ((0 : Nat), encB p).2 = encB p from rfl, show (((0 : Nat), encB p).1 : Nat) = 0 from rfl, ← hX] at cE
    obtain ⟨q, hq⟩ : ∃ q, (X.toList == s.toList) = q := ⟨_, rfl⟩
    have HR : Hid (propL (ls s) = (othK p p.length && !(bigK p p.length) && q)) := by
      show _ = _
      rw [prop_ok hd, ← hq, hX, toList_ls, toList_ls, ls_bs]
      congr 1
      by_cases he : encB p = ls s
      · rw [he]; simp
      · rw [decide_eq_false he]; simp [he]
    have HB : Hid (∀ k (hk : k < p.length), bigP p[k] = true → propL (ls s) = false) := fun k hk => prop_big hd k hk
    obtain ⟨R, hRR⟩ : ∃ R, R = propL (ls s) := ⟨_, rfl⟩
    rw [← hRR] at HR HB ⊢
    rw [d1, d2] at c1
    have HPL := Lib.hid hpl
    clear hd d1 d2 hX hP hRR
    go_enter Tryz.func41, Tryz.ntmps41
    go_wp2_with fail
    refine c1.mono ?_
    rintro e w1 ⟨⟨v, rfl, hown⟩, hb⟩
    rw [nvI_zv] at hown
    obtain ⟨A1, k1, rfl, hh, _⟩ := Has.of_own hown
    have c2 := cE A1 k1 _ w1 hh (Nat.le_refl _)
    have H := Lib.hid hh
    clear hh hown cE c1
    go_wp2
    go_loop [5, 6] (fun o i => ∃ k : Nat, k ≤ p.length ∧ i = .int .i64 k ∧ o = .bool (othK p k) ∧ Hid (bigK p k = false)) (fun _ i => p.length - (intOf i).toNat)
    case atStart => exact ⟨0, Nat.zero_le _, rfl, rfl, rfl⟩
    case round =>
      obtain ⟨k, hk, rfl, rfl, HK⟩ := hrel
      by_cases hlt : k < p.length
      · obtain ⟨b1, o1, rfl, hl1, hc1⟩ := H.out.2 (by omega)
        have g1 := hc1 k (by simp; exact hlt)
        rw [List.getElem_map, List.getElem_map] at g1
        have HO := Lib.hid (othK_succ p k hlt)
        have HG := Lib.hid (bigK_succ p k hlt)
        have HBk := Lib.hid (HB.out k hlt)
        obtain ⟨x, hx⟩ : ∃ x, x = p[k] := ⟨_, rfl⟩
        rw [← hx] at g1 HO HG HBk
        obtain ⟨o, ho⟩ : ∃ o, o = othK p k := ⟨_, rfl⟩
        rw [← ho] at HO ⊢
        have hkd : decide ((k : Int) < (p.length : Int)) = true := decide_eq_true (by omega)
        have hpl2 : p.length ≤ 256 := HPL.out
        clear hc1 hx ho
        rcases kind_of x with ⟨n1, n2⟩ | ⟨n1, n2, n3⟩ | ⟨n1, n2, n3⟩ | ⟨n1, n3⟩
        · have t1 : decide ((128 : Int) ≤ (x : Int)) = false := decide_eq_false (by omega)
          have t1N : decide (128 ≤ x) = false := decide_eq_false (by omega)
          have t2 : decide ((65 : Int) ≤ (x : Int)) = false := decide_eq_false (by omega)
          have t2N : decide (65 ≤ x) = false := decide_eq_false (by omega)
          have HK2 : Hid (bigK p (k + 1) = false) := by show _ = _; rw [HG.out, HK.out, n2]; rfl
          have HO2 : Hid (othK p (k + 1) = o) := by show _ = _; rw [HO.out, t1N, Bool.or_false]
          clear n1 n2
          cases o
          all_goals
            go_wp2
            go_round
            case rel => exact ⟨k + 1, by omega, by go_num, by rw [HO2.out], HK2⟩
            case measure => simp [intOf]; omega
        · have t1 : decide ((128 : Int) ≤ (x : Int)) = false := decide_eq_false (by omega)
          have t1N : decide (128 ≤ x) = false := decide_eq_false (by omega)
          have t2 : decide ((65 : Int) ≤ (x : Int)) = true := decide_eq_true (by omega)
          have t2N : decide (65 ≤ x) = true := decide_eq_true (by omega)
          have t3 : decide ((x : Int) ≤ 90) = true := decide_eq_true (by omega)
          have t3N : decide (x ≤ 90) = true := decide_eq_true (by omega)
          have HE := Lib.hid (HBk.out n3)
          clear n1 n2 n3
          cases o
          all_goals
            go_wp2
            go_ret
            exact ⟨ret_bool HE.out.symm, hb⟩
        · have t1 : decide ((128 : Int) ≤ (x : Int)) = false := decide_eq_false (by omega)
          have t1N : decide (128 ≤ x) = false := decide_eq_false (by omega)
          have t2 : decide ((65 : Int) ≤ (x : Int)) = true := decide_eq_true (by omega)
          have t2N : decide (65 ≤ x) = true := decide_eq_true (by omega)
          have t3 : decide ((x : Int) ≤ 90) = false := decide_eq_false (by omega)
          have t3N : decide (x ≤ 90) = false := decide_eq_false (by omega)
          have HK2 : Hid (bigK p (k + 1) = false) := by show _ = _; rw [HG.out, HK.out, n3]; rfl
          have HO2 : Hid (othK p (k + 1) = o) := by show _ = _; rw [HO.out, t1N, Bool.or_false]
          clear n1 n2 n3
          cases o
          all_goals
            go_wp2
            go_round
            case rel => exact ⟨k + 1, by omega, by go_num, by rw [HO2.out], HK2⟩
            case measure => simp [intOf]; omega
        · have t1 : decide ((128 : Int) ≤ (x : Int)) = true := decide_eq_true (by omega)
          have t1N : decide (128 ≤ x) = true := decide_eq_true (by omega)
          have t2 : decide ((65 : Int) ≤ (x : Int)) = true := decide_eq_true (by omega)
          have t2N : decide (65 ≤ x) = true := decide_eq_true (by omega)
          have t3 : decide ((x : Int) ≤ 90) = false := decide_eq_false (by omega)
          have t3N : decide (x ≤ 90) = false := decide_eq_false (by omega)
          have HK2 : Hid (bigK p (k + 1) = false) := by show _ = _; rw [HG.out, HK.out, n3]; rfl
          have HO2 : Hid (othK p (k + 1) = true) := by show _ = _; rw [HO.out, t1N, Bool.or_true]
          clear n1 n3
          cases o
          all_goals
            go_wp2
            go_round
            case rel => exact ⟨k + 1, by omega, by go_num, by rw [HO2.out], HK2⟩
            case measure => simp [intOf]; omega
      · obtain rfl : k = p.length := by omega
        have hkd : decide ((p.length : Int) < (p.length : Int)) = false := by simp
        have HR2 : Hid (R = (othK p p.length && q)) := by
          show _ = _
          rw [HR.out, HK.out]
          simp
        obtain ⟨o, ho⟩ : ∃ o, o = othK p p.length := ⟨_, rfl⟩
        rw [← ho] at HR2 ⊢
        clear ho
        cases q <;> cases o
        all_goals
          go_wp2_with fail
          refine c2.mono ?_
          rintro e w2 ⟨rfl, hb2⟩
          go_wp2
          go_ret
          exact ⟨ret_bool (by rw [HR2.out]; rfl), hb.trans (hb2.mono hb.size)⟩
end

section
open Go.RowKit

def okI (y : Int) : Bool := (decide (97 ≤ y) && decide (y ≤ 122)) || (decide (48 ≤ y) && decide (y ≤ 57)) || y == 45 || y == 95
theorem okI_nat (n : Nat) : okI (n : Int) = okN n := by
  have e : okI (n : Int) = true ↔ okN n = true := by
    rw [okN_yes]
    unfold okI
    simp only [Bool.or_eq_true, Bool.and_eq_true, decide_eq_true_eq, beq_iff_eq]
    omega
  cases h : okN n with
  | true => exact e.2 h
  | false =>
    cases h2 : okI (n : Int) with
    | true => rw [e.1 h2] at h; cases h
    | false => rfl
set_option maxHeartbeats 400000 in
theorem isLb_int (b : Int) (w : World) : Calls Tryz.prog 71 #[.int .u8 b] w fun e w' => e = .returned (.bool (okI b)) ∧ w = w' := by
  go_enter Tryz.func71, Tryz.ntmps71
  go_wp2
  all_goals
    go_ret
    exact ⟨ret_bool (by first | (simp [okI, *]; done) | (exfalso; simp_all; done) | (simp [okI, *]; omega) | (rw [Bool.eq_iff_iff]; simp [okI, *]; done) | (rw [Bool.eq_iff_iff]; simp [okI, *]; omega)), rfl⟩
theorem isLb_any (c : UInt8) (w : World) : Calls Tryz.prog 71 #[.int .u8 (c.toNat : Int)] w fun e w' => e = .returned (.bool (okN c.toNat)) ∧ w = w' := by
  rw [← okI_nat]
  exact isLb_int _ w

/-- What a label's bytes and ends ask. -/
def plainL (l : List UInt8) : Bool := endsL l && l.all (fun b => okN b.toNat)
theorem lab_plain (l : List UInt8) : labL l = (plainL l && (decide (l.take 4 ≠ xnL) || propL (l.drop 4))) := rfl
theorem plain_zero {s : ByteArray} (h : s.size = 0) : plainL (ls s) = false := by
  have : ls s = [] := List.eq_nil_of_length_eq_zero (by rw [ls_length]; exact h)
  rw [this]
  rfl
theorem plain_long {s : ByteArray} (h : 63 < s.size) : plainL (ls s) = false := by
  unfold plainL endsL
  rw [ls_length, decide_eq_false (p := s.size ≤ 63) (by omega)]
  simp
theorem plain_ends {s : ByteArray} {y0 y1 : Nat} (h : 0 < s.size) (h0 : y0 = (s[0]'h).toNat) (h1 : y1 = (s[s.size - 1]'(by omega)).toNat) :
    ((y0 = 45 ∨ y1 = 45) → plainL (ls s) = false) ∧ ((y0 ≠ 45 ∧ y1 ≠ 45 ∧ s.size ≤ 63) → plainL (ls s) = okK (ls s) s.size) := by
  have g0 : (ls s).head? = some (s[0]'h) := by rw [List.head?_eq_getElem?, ls_get s 0 h]
  have g1 : (ls s).getLast? = some (s[s.size - 1]'(by omega)) := by rw [List.getLast?_eq_getElem?, ls_length, ls_get s _ (by omega)]
  have hne : ls s ≠ [] := by
    intro e
    have := ls_length s
    rw [e] at this
    simp at this
    omega
  have e : endsL (ls s) = (decide (s.size ≤ 63) && decide (y0 ≠ 45) && decide (y1 ≠ 45)) := by
    unfold endsL
    rw [g0, g1, ls_length, decide_eq_true hne, Bool.true_and]
    congr 1
    · congr 1
      rw [decide_eq_decide]
      rw [h0, ne_eq, ne_eq, Option.some.injEq, u8_45]
    · rw [decide_eq_decide]
      rw [h1, ne_eq, ne_eq, Option.some.injEq, u8_45]
  refine ⟨?_, ?_⟩
  · intro hh
    unfold plainL
    rw [e]
    rcases hh with hh | hh
    · simp [hh]
    · simp [hh]
  · rintro ⟨a, b, c⟩
    unfold plainL okK
    rw [e, decide_eq_true a, decide_eq_true b, decide_eq_true c, take_ls_all]
    simp
theorem okK_bad {l : List UInt8} (n k : Nat) (h : k < l.length) (hn : k < n) (hb : okN (l[k]).toNat = false) : okK l n = false := by
  unfold okK
  rw [List.all_eq_false]
  refine ⟨l[k], ?_, by rw [hb]; simp⟩
  rw [List.mem_take_iff_getElem]
  exact ⟨k, by omega, rfl⟩

set_option maxRecDepth 20000 in
set_option maxHeartbeats 2000000 in
theorem plain_any (s : ByteArray) (w : World) :
    Calls Tryz.prog 57 #[.string s] w fun e w' => e = .returned (.bool (plainL (ls s))) ∧ w = w' := by
  by_cases h0 : s.size = 0
  · have hlab := Lib.hid (plain_zero h0)
    have he : s.toList.isEmpty = true := by rw [toList_ls]; exact List.isEmpty_iff.2 (List.eq_nil_of_length_eq_zero (by rw [ls_length]; exact h0))
    go_enter Tryz.func57, Tryz.ntmps57
    go_wp2
    go_ret
    exact ⟨ret_bool hlab.out.symm, rfl⟩
  · have he : s.toList.isEmpty = false := by rw [toList_ls]; exact ne_empty h0
    by_cases h1 : 63 < s.size
    · have hlab := Lib.hid (plain_long h1)
      have hd : decide ((63 : Int) < (s.size : Int)) = true := decide_eq_true (by omega)
      go_enter Tryz.func57, Tryz.ntmps57
      go_wp2
      go_ret
      exact ⟨ret_bool hlab.out.symm, rfl⟩
    · have hd : decide ((63 : Int) < (s.size : Int)) = false := decide_eq_false (by omega)
      have hz0 : (0 : Int) < (s.size : Int) := by omega
      have hf0 : 0 < s.size := by omega
      obtain ⟨y0, hy0⟩ : ∃ y0 : Nat, y0 = (s[0]'hf0).toNat := ⟨_, rfl⟩
      obtain ⟨y1, hy1⟩ : ∃ y1 : Nat, y1 = (s[s.size - 1]'(by omega)).toNat := ⟨_, rfl⟩
      have hends := Lib.hid (plain_ends hf0 hy0 hy1)
      have hsub : (s.size : Int) - 1 = ((s.size - 1 : Nat) : Int) := by omega
      by_cases h2 : y0 = 45
      · have hlab := Lib.hid (hends.out.1 (.inl h2))
        have e0 : (((s[0]'hf0).toNat : Int) == 45) = true := by rw [← hy0, h2]; rfl
        clear hy0 hy1
        go_enter Tryz.func57, Tryz.ntmps57
        go_wp2
        go_ret
        exact ⟨ret_bool hlab.out.symm, rfl⟩
      · have e0 : (((s[0]'hf0).toNat : Int) == 45) = false := by rw [← hy0]; simp; omega
        by_cases h3 : y1 = 45
        · have hlab := Lib.hid (hends.out.1 (.inr h3))
          have e1 : (((s[s.size - 1]'(by omega)).toNat : Int) == 45) = true := by rw [← hy1, h3]; rfl
          clear hy0 hy1
          go_enter Tryz.func57, Tryz.ntmps57
          go_wp2
          go_ret
          exact ⟨ret_bool hlab.out.symm, rfl⟩
        · have hlab := Lib.hid (hends.out.2 ⟨h2, h3, by omega⟩)
          have e1 : (((s[s.size - 1]'(by omega)).toNat : Int) == 45) = false := by rw [← hy1]; simp; omega
          clear hy0 hy1 hends
          rw [hlab.out]
          have HS : Hid (s.size ≤ 63) := by show _ ≤ _; omega
          obtain ⟨R, hR⟩ : ∃ R, R = okK (ls s) s.size := ⟨_, rfl⟩
          have HR := Lib.hid hR
          rw [← hR]
          clear hR hlab
          go_enter Tryz.func57, Tryz.ntmps57
          go_wp2
          clear e0 e1 h2 h3 hsub he
          go_loop [26] (fun i => ∃ k : Nat, k ≤ s.size ∧ i = .int .i64 k ∧ Hid (okK (ls s) k = true)) (fun i => s.size - (intOf i).toNat)
          case atStart => exact ⟨0, Nat.zero_le _, rfl, rfl⟩
          case round =>
            obtain ⟨k, hk, rfl, HK⟩ := hrel
            have hs63 : s.size ≤ 63 := HS.out
            by_cases hlt : k < s.size
            · have hkl : k < (ls s).length := by rw [ls_length]; exact hlt
              have HG := Lib.hid (okK_succ (ls s) k hkl)
              have HB : Hid (okN (ls s)[k].toNat = false → R = false) := fun hb => by rw [HR.out]; exact okK_bad s.size k hkl hlt hb
              rw [ls_getE s k hlt hkl] at HG HB
              have hkd : decide ((k : Int) < (s.size : Int)) = true := decide_eq_true (by omega)
              have cB := isLb_any s[k]
              cases hq : okN s[k].toNat with
              | true =>
                have HK2 : Hid (okK (ls s) (k + 1) = true) := by show _ = _; rw [HG.out, HK.out, hq]; rfl
                rw [hq] at cB
                clear hq
                go_wp2_with (go_at_call 71; refine (cB _).mono ?_; rintro e w' ⟨rfl, rfl⟩)
                go_round
                case rel => exact ⟨k + 1, by omega, by go_num, HK2⟩
                case measure => simp [intOf]; omega
              | false =>
                have HE := Lib.hid (HB.out hq)
                rw [hq] at cB
                clear hq
                go_wp2_with (go_at_call 71; refine (cB _).mono ?_; rintro e w' ⟨rfl, rfl⟩)
                go_ret
                exact ⟨ret_bool HE.out.symm, rfl⟩
            · obtain rfl : k = s.size := by omega
              have hkd : decide ((s.size : Int) < (s.size : Int)) = false := by simp
              have HR2 : Hid (R = true) := by show _ = _; rw [HR.out, HK.out]
              go_wp2
              go_ret
              exact ⟨ret_bool HR2.out.symm, rfl⟩

theorem nb_any (x : Nat) (w : World) : Calls Tryz.prog 76 #[.int .i64 (x : Int)] w fun e w' => e = .returned (.bool (decide (128 ≤ x))) ∧ w = w' := by
  have e : decide ((128 : Int) ≤ (x : Int)) = decide (128 ≤ x) := by rw [decide_eq_decide]; omega
  go_enter Tryz.func76, Tryz.ntmps76
  go_wp2
  go_ret
  exact ⟨ret_bool (by first | exact e | simp), rfl⟩
theorem iu_any (x : Nat) (w : World) : Calls Tryz.prog 77 #[.int .i64 (x : Int)] w fun e w' => e = .returned (.bool (bigP x)) ∧ w = w' := by
  rcases kind_of x with ⟨n1, n2⟩ | ⟨n1, n2, n3⟩ | ⟨n1, n2, n3⟩ | ⟨n1, n3⟩
  · have t : decide ((65 : Int) ≤ (x : Int)) = false := decide_eq_false (by omega)
    have tN : decide (65 ≤ x) = false := decide_eq_false (by omega)
    rw [n2]
    clear n1 n2
    go_enter Tryz.func77, Tryz.ntmps77
    go_wp2
    go_ret
    exact ⟨rfl, rfl⟩
  all_goals
    have t : decide ((65 : Int) ≤ (x : Int)) = true := decide_eq_true (by omega)
    have tN : decide (65 ≤ x) = true := decide_eq_true (by omega)
    rw [n3]
  · have t2 : decide ((x : Int) ≤ 90) = true := decide_eq_true (by omega)
    have t2N : decide (x ≤ 90) = true := decide_eq_true (by omega)
    clear n1 n2 n3
    go_enter Tryz.func77, Tryz.ntmps77
    go_wp2
    go_ret
    exact ⟨rfl, rfl⟩
  · have t2 : decide ((x : Int) ≤ 90) = false := decide_eq_false (by omega)
    have t2N : decide (x ≤ 90) = false := decide_eq_false (by omega)
    clear n1 n2 n3
    go_enter Tryz.func77, Tryz.ntmps77
    go_wp2
    go_ret
    exact ⟨rfl, rfl⟩
  · have t2 : decide ((x : Int) ≤ 90) = false := decide_eq_false (by omega)
    have t2N : decide (x ≤ 90) = false := decide_eq_false (by omega)
    clear n1 n3
    go_enter Tryz.func77, Tryz.ntmps77
    go_wp2
    go_ret
    exact ⟨rfl, rfl⟩
end

section
open Go.RowKit

theorem any_drop (P : List Nat) (q : Nat → Bool) (k : Nat) (h : k < P.length) : (P.drop k).any q = (q P[k] || (P.drop (k + 1)).any q) := by
  rw [List.drop_eq_getElem_cons h, List.any_cons]

set_option maxRecDepth 20000 in
set_option maxHeartbeats 1600000 in
theorem ifN_any (P : List Nat) (hP : ∀ x ∈ P, x ≤ 1114111) (A : Option Addr) (cap B : Nat) (w : World) (hA : Has w B A P.length (P.map nvI)) (hB : B ≤ w.heap.size) (hl : P.length ≤ 1000000) :
    Calls Tryz.prog 92 #[.slice A P.length cap, .func (.func 76) #[] #[]] w fun e w' => ∃ r : Int, e = .returned (.int .i64 r) ∧ decide (0 ≤ r) = P.any (fun x => decide (128 ≤ x)) ∧ Below w.heap.size w w' := by
  have HA := Lib.hid hA
  have HP := Lib.hid hP
  have HL := Lib.hid hl
  clear hA hP hl
  go_enter Tryz.func92, Tryz.ntmps92
  go_wp2
  go_loopw [8] (fun i wr => ∃ k : Nat, k ≤ P.length ∧ i = .int .i64 k ∧ Hid (Below w.heap.size w wr ∧ P.any (fun x => decide (128 ≤ x)) = (P.drop k).any (fun x => decide (128 ≤ x)))) (fun i _ => P.length - (RowKit.intOf i).toNat)
  case atStart => exact ⟨0, Nat.zero_le _, rfl, Below.refl _ _, by rw [List.drop_zero]⟩
  case round =>
    obtain ⟨k, hk, rfl, HR⟩ := hrel
    have hkb : (k : Int) ≤ 1000000 := by have := HL.out; omega
    by_cases hlt : k < P.length
    · obtain ⟨b, off, rfl, hbw, hc⟩ := HA.out.2 (by omega)
      have h1 := hc k (by rw [List.length_map]; exact hlt)
      rw [List.getElem_map] at h1
      have d1 := (HR.out.1.cell (p := ⟨b, off + k, none⟩) (Nat.lt_of_lt_of_le hbw hB)).trans h1
      have hstep : Hid (P.any (fun x => decide (128 ≤ x)) = ((fun x => decide (128 ≤ x)) P[k] || (P.drop (k + 1)).any (fun x => decide (128 ≤ x)))) := by
        show _ = _
        rw [HR.out.2, any_drop P (fun x => decide (128 ≤ x)) k hlt]
      have hx := HP.out _ (List.getElem_mem hlt)
      obtain ⟨x, hxx⟩ : ∃ x, x = P[k] := ⟨_, rfl⟩
      rw [← hxx] at d1 hstep hx
      clear hc h1 hxx
      have cF := nb_any x
      cases hb : (fun x => decide (128 ≤ x)) x with
      | true =>
        have HB := Lib.hid hb
        rw [show decide (128 ≤ x) = (fun x => decide (128 ≤ x)) x from rfl, hb] at cF
        clear hb
        go_wp2_with (go_at_call 76; refine (cF wr).mono ?_; rintro e w1 ⟨rfl, rfl⟩)
        go_ret
        refine ⟨k, rfl, ?_, HR.out.1⟩
        rw [hstep.out, HB.out, Bool.true_or, decide_eq_true_iff]
        omega
      | false =>
        have HB := Lib.hid hb
        rw [show decide (128 ≤ x) = (fun x => decide (128 ≤ x)) x from rfl, hb] at cF
        clear hb
        go_wp2_with (go_at_call 76; refine (cF wr).mono ?_; rintro e w1 ⟨rfl, rfl⟩)
        go_roundw
        case rel => exact ⟨k + 1, by omega, by go_num, HR.out.1, by rw [hstep.out, HB.out, Bool.false_or]⟩
        case measure => simp [RowKit.intOf]; omega
    · have hkm : k = P.length := by omega
      have hz : Hid (P.any (fun x => decide (128 ≤ x)) = false) := by
        show _ = _
        rw [HR.out.2, hkm, List.drop_length]
        rfl
      have HBl := Lib.hid HR.out.1
      clear hkm
      go_wp2
      go_ret
      exact ⟨-1, rfl, by rw [hz.out]; decide, HBl.out⟩
theorem cfN_any (P : List Nat) (hP : ∀ x ∈ P, x ≤ 1114111) (A : Option Addr) (cap B : Nat) (w : World) (hA : Has w B A P.length (P.map nvI)) (hB : B ≤ w.heap.size) (hl : P.length ≤ 1000000) :
    Calls Tryz.prog 75 #[.slice A P.length cap, .func (.func 76) #[] #[]] w fun e w' => e = .returned (.bool (P.any (fun x => decide (128 ≤ x)))) ∧ Below w.heap.size w w' := by
  have hc := ifN_any P hP A cap B w hA hB hl
  obtain ⟨R, hR⟩ : ∃ R, R = P.any (fun x => decide (128 ≤ x)) := ⟨_, rfl⟩
  rw [← hR] at hc ⊢
  clear hP hA hl hR
  go_enter Tryz.func75, Tryz.ntmps75
  go_wp2_with (go_at_call 92; refine hc.mono ?_; rintro e w1 ⟨r, rfl, hr, hb1⟩; have HR := Lib.hid hr; clear hr)
  go_ret
  exact ⟨ret_bool (by rw [← HR.out]), hb1⟩

set_option maxRecDepth 20000 in
set_option maxHeartbeats 1600000 in
theorem ifU_any (P : List Nat) (hP : ∀ x ∈ P, x ≤ 1114111) (A : Option Addr) (cap B : Nat) (w : World) (hA : Has w B A P.length (P.map nvI)) (hB : B ≤ w.heap.size) (hl : P.length ≤ 1000000) :
    Calls Tryz.prog 92 #[.slice A P.length cap, .func (.func 77) #[] #[]] w fun e w' => ∃ r : Int, e = .returned (.int .i64 r) ∧ decide (0 ≤ r) = P.any bigP ∧ Below w.heap.size w w' := by
  have HA := Lib.hid hA
  have HP := Lib.hid hP
  have HL := Lib.hid hl
  clear hA hP hl
  go_enter Tryz.func92, Tryz.ntmps92
  go_wp2
  go_loopw [8] (fun i wr => ∃ k : Nat, k ≤ P.length ∧ i = .int .i64 k ∧ Hid (Below w.heap.size w wr ∧ P.any bigP = (P.drop k).any bigP)) (fun i _ => P.length - (RowKit.intOf i).toNat)
  case atStart => exact ⟨0, Nat.zero_le _, rfl, Below.refl _ _, by rw [List.drop_zero]⟩
  case round =>
    obtain ⟨k, hk, rfl, HR⟩ := hrel
    have hkb : (k : Int) ≤ 1000000 := by have := HL.out; omega
    by_cases hlt : k < P.length
    · obtain ⟨b, off, rfl, hbw, hc⟩ := HA.out.2 (by omega)
      have h1 := hc k (by rw [List.length_map]; exact hlt)
      rw [List.getElem_map] at h1
      have d1 := (HR.out.1.cell (p := ⟨b, off + k, none⟩) (Nat.lt_of_lt_of_le hbw hB)).trans h1
      have hstep : Hid (P.any bigP = (bigP P[k] || (P.drop (k + 1)).any bigP)) := by
        show _ = _
        rw [HR.out.2, any_drop P bigP k hlt]
      have hx := HP.out _ (List.getElem_mem hlt)
      obtain ⟨x, hxx⟩ : ∃ x, x = P[k] := ⟨_, rfl⟩
      rw [← hxx] at d1 hstep hx
      clear hc h1 hxx
      have cF := iu_any x
      cases hb : bigP x with
      | true =>
        have HB := Lib.hid hb
        rw [show bigP x = bigP x from rfl, hb] at cF
        clear hb
        go_wp2_with (go_at_call 77; refine (cF wr).mono ?_; rintro e w1 ⟨rfl, rfl⟩)
        go_ret
        refine ⟨k, rfl, ?_, HR.out.1⟩
        rw [hstep.out, HB.out, Bool.true_or, decide_eq_true_iff]
        omega
      | false =>
        have HB := Lib.hid hb
        rw [show bigP x = bigP x from rfl, hb] at cF
        clear hb
        go_wp2_with (go_at_call 77; refine (cF wr).mono ?_; rintro e w1 ⟨rfl, rfl⟩)
        go_roundw
        case rel => exact ⟨k + 1, by omega, by go_num, HR.out.1, by rw [hstep.out, HB.out, Bool.false_or]⟩
        case measure => simp [RowKit.intOf]; omega
    · have hkm : k = P.length := by omega
      have hz : Hid (P.any bigP = false) := by
        show _ = _
        rw [HR.out.2, hkm, List.drop_length]
        rfl
      have HBl := Lib.hid HR.out.1
      clear hkm
      go_wp2
      go_ret
      exact ⟨-1, rfl, by rw [hz.out]; decide, HBl.out⟩
theorem cfU_any (P : List Nat) (hP : ∀ x ∈ P, x ≤ 1114111) (A : Option Addr) (cap B : Nat) (w : World) (hA : Has w B A P.length (P.map nvI)) (hB : B ≤ w.heap.size) (hl : P.length ≤ 1000000) :
    Calls Tryz.prog 75 #[.slice A P.length cap, .func (.func 77) #[] #[]] w fun e w' => e = .returned (.bool (P.any bigP)) ∧ Below w.heap.size w w' := by
  have hc := ifU_any P hP A cap B w hA hB hl
  obtain ⟨R, hR⟩ : ∃ R, R = P.any bigP := ⟨_, rfl⟩
  rw [← hR] at hc ⊢
  clear hP hA hl hR
  go_enter Tryz.func75, Tryz.ntmps75
  go_wp2_with (go_at_call 92; refine hc.mono ?_; rintro e w1 ⟨r, rfl, hr, hb1⟩; have HR := Lib.hid hr; clear hr)
  go_ret
  exact ⟨ret_bool (by rw [← HR.out]), hb1⟩
end

section
open Go.RowKit

theorem cell_nv {w wr : World} {B len : Nat} {b1 o1 : Nat} {P : List Nat} (h : Has w B (some ⟨b1, o1, none⟩) len (P.map nvI)) (hb : Below w.heap.size w wr) (hB : B ≤ w.heap.size) (k : Nat) (hk : k < P.length) (hl : k < len) :
    wr.cell? ⟨b1, o1 + k, none⟩ = some (nvI P[k]) := by
  obtain ⟨b', off', e, hlt', hc⟩ := h.at_ hl
  injection e with e
  injection e with e1 e2 _
  subst e1 e2
  rw [hb.cell (p := ⟨b1, o1 + k, none⟩) (Nat.lt_of_lt_of_le hlt' hB), hc]
  simp
theorem txt_snoc (P : List Nat) (k : Nat) (hk : k < P.length) : txtL (P.take (k + 1)) = txtL (P.take k) ++ txt8 P[k] := by
  rw [List.take_succ_eq_append_getElem hk]
  unfold txtL
  rw [List.flatMap_append]
  simp
theorem bv8 {x : Nat} (h : x < 256) : bv (UInt8.ofNat x) = .int .u8 (x : Int) := by rw [bv_eq, of8 h]
theorem div_int (p d : Nat) : Int.tdiv (p : Int) (d : Int) = ((p / d : Nat) : Int) := by
  rw [Int.tdiv_eq_ediv_of_nonneg (by omega)]
  exact (Int.natCast_ediv _ _).symm
theorem mod_int (p d : Nat) : Int.tmod (p : Int) (d : Int) = ((p % d : Nat) : Int) := by
  rw [Int.tmod_eq_emod_of_nonneg (by omega)]
  exact (Int.natCast_emod _ _).symm
theorem txtL_le4 : ∀ (P : List Nat), (txtL P).length ≤ 4 * P.length
  | [] => Nat.le_refl _
  | q :: P => by
    have e : (txtL (q :: P)).length = (txt8 q).length + (txtL P).length := by
      show (txt8 q ++ txtL P).length = _
      rw [List.length_append]
    have := (txt8_len q).2.2.2
    have := txtL_le4 P
    rw [e, List.length_cons]
    omega
end

section
open Go.RowKit

set_option maxRecDepth 20000 in
set_option maxHeartbeats 2000000 in
theorem tof_any (P : List Nat) (hP : ∀ x ∈ P, ptN x = true) (A : Option Addr) (cap B : Nat) (w : World) (hA : Has w B A P.length (P.map nvI)) (hB : B ≤ w.heap.size) (hl : P.length ≤ 100000000) :
    Calls Tryz.prog 61 #[.slice A P.length cap] w fun e w' => e = .returned (.string (bs (txtL P))) ∧ Below w.heap.size w w' := by
  have HA := Lib.hid hA
  have HPT := Lib.hid hP
  have HL := Lib.hid hl
  clear hA hP hl
  go_enter Tryz.func61, Tryz.ntmps61
  go_wp2
  go_loopw [3, 8] (fun v i wr => ∃ k : Nat, k ≤ P.length ∧ i = .int .i64 k ∧ wr.ownsRow w.heap.size 5 1 v (txtL (P.take k)).length ((txtL (P.take k)).map bv) ∧ Below w.heap.size w wr) (fun _ i _ => P.length - (RowKit.intOf i).toNat)
  case atStart => exact ⟨0, Nat.zero_le _, rfl, World.ownsRow_nil _ _ _ _, Below.refl _ _⟩
  case round =>
    obtain ⟨k, hk, rfl, hown, hb⟩ := hrel
    have hkb : (k : Int) ≤ 100000000 := by have := HL.out; omega
    by_cases hlt : k < P.length
    · obtain ⟨b, off, rfl, hbw, hc⟩ := HA.out.2 (by omega)
      have h1 := hc k (by rw [List.length_map]; exact hlt)
      rw [List.getElem_map] at h1
      have d1 := (hb.cell (p := ⟨b, off + k, none⟩) (Nat.lt_of_lt_of_le hbw hB)).trans h1
      have hpt := HPT.out _ (List.getElem_mem hlt)
      have hsn := Lib.hid (txt_snoc P k hlt)
      have hkl : (txtL (P.take k)).length ≤ 400000000 := by
        have h2 := txtL_le4 (P.take k)
        have h3 := HL.out
        rw [List.length_take] at h2
        omega
      obtain ⟨x, hx⟩ : ∃ x, x = P[k] := ⟨_, rfl⟩
      rw [← hx] at d1 hpt hsn
      have hple := ptN_le hpt
      have hp0 : (0 : Int) ≤ (x : Int) := by omega
      have hp1 : (x : Int) ≤ 1114111 := by omega
      have hkd : decide ((k : Int) < (P.length : Int)) = true := decide_eq_true (by omega)
      have cA := fun v n l hv hn => ar_any (w0 := w) (w := wr) (B := w.heap.size) (v := v) (n := n) (l := l) hpt hv hn hb (Nat.le_refl _)
      have c1 := cA _ _ _ hown (by omega)
      have hlen : Hid ((txtL (P.take (k + 1))).length = (txtL (P.take k)).length + (txt8 x).length) := by show _ = _; rw [hsn.out, List.length_append]
      clear hc h1 hx cA hpt hple hkl
      go_wp2_with fail
      refine c1.mono ?_
      rintro e w1 ⟨v', rfl, hown', hb'⟩
      clear hown c1
      go_wp2
      go_roundw
      case rel =>
        refine ⟨k + 1, by omega, by go_num, ?_, hb'⟩
        rw [hlen.out, hsn.out]
        exact hown'
      case measure => simp [RowKit.intOf]; omega
    · obtain rfl : k = P.length := by omega
      have hkd : decide ((P.length : Int) < (P.length : Int)) = false := by simp
      rw [List.take_length] at hown
      have hconv := str_owned wr _ _ _ _ hown
      go_wp2
      go_ret
      exact ⟨rfl, hb⟩
end

end Go.Proofs.YthoolifdmemceaaGreatDoor
