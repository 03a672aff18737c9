/-
  Contracts of the reference of layer 13: proper, Valid.
-/
import Derived.Test.YtoieapdfpbcfpaaDoorLabA
import Derived.Test.YtoieapdfpbcfpaaDoorPu3
import Derived.Test.YtoieapdfpbcfpaaDoorPu4
namespace Go.Proofs.YtoieapdfpbcfpaaDoor
open Go.RowKit

/-- What is said of the first k code points. -/
def othK (p : List Nat) (k : Nat) : Bool := (p.take k).any (fun x => decide (128 ≤ x))
def bigK (p : List Nat) (k : Nat) : Bool := (p.take k).any bigP
theorem othK_succ (p : List Nat) (k : Nat) (h : k < p.length) : othK p (k + 1) = (othK p k || decide (128 ≤ p[k])) := by
  unfold othK
  rw [List.take_succ_eq_append_getElem h, List.any_append]
  simp
theorem bigK_succ (p : List Nat) (k : Nat) (h : k < p.length) : bigK p (k + 1) = (bigK p k || bigP p[k]) := by
  unfold bigK
  rw [List.take_succ_eq_append_getElem h, List.any_append]
  simp
theorem all_big (p : List Nat) : p.all (fun x => !bigP x) = !(p.any bigP) := by
  induction p with
  | nil => rfl
  | cons x p ih => rw [List.all_cons, List.any_cons, ih, Bool.not_or]
theorem prop_ok {r : List UInt8} {p : List Nat} (h : decL r = .ok p) : propL r = (othK p p.length && !(bigK p p.length) && decide (encB p = r)) := by
  unfold propL othK bigK
  rw [h, List.take_length, ← all_big]
theorem prop_no {r : List UInt8} {c : Nat} (h : decL r = .error c) : propL r = false := by unfold propL; rw [h]
theorem prop_big {r : List UInt8} {p : List Nat} (h : decL r = .ok p) (k : Nat) (hk : k < p.length) (hb : bigP p[k] = true) : propL r = false := by
  rw [prop_ok h]
  have : bigK p p.length = true := by
    unfold bigK
    rw [List.take_length, List.any_eq_true]
    exact ⟨_, List.getElem_mem hk, hb⟩
  rw [this]
  simp
theorem big_of (x : Nat) : bigP x = (decide (65 ≤ x) && decide (x ≤ 90)) := rfl
/-- The four kinds of a code point. -/
theorem kind_of (x : Nat) : (x < 65 ∧ bigP x = false) ∨ (65 ≤ x ∧ x ≤ 90 ∧ bigP x = true) ∨ (90 < x ∧ x < 128 ∧ bigP x = false) ∨ (128 ≤ x ∧ bigP x = false) := by
  rw [big_of]
  by_cases h1 : 65 ≤ x
  · by_cases h2 : x ≤ 90
    · exact .inr (.inl ⟨h1, h2, by rw [decide_eq_true h1, decide_eq_true h2]; rfl⟩)
    · have e : (decide (65 ≤ x) && decide (x ≤ 90)) = false := by rw [decide_eq_false h2, Bool.and_false]
      by_cases h3 : x < 128
      · exact .inr (.inr (.inl ⟨by omega, h3, e⟩))
      · exact .inr (.inr (.inr ⟨by omega, e⟩))
  · exact .inl ⟨by omega, by rw [decide_eq_false h1]; rfl⟩

set_option maxHeartbeats 2000000 in
theorem refProper_any (s : ByteArray) (w : World) :
    Calls Tryd.prog 30 #[.string s] w fun e w' => e = .returned (.bool (propL (ls s))) ∧ Below w.heap.size w w' := by
  have c1 := refDec_any s w
  unfold DecPost at c1
  cases hd : decL (ls s) with
  | error c =>
    have hc := dec_err_ne hd
    obtain ⟨d1, d2⟩ := dec_err hd
    have hcz : ((c : Int) != 0) = true := by rw [bne_iff_ne]; omega
    have hcN : (c != 0) = true := by rw [bne_iff_ne]; exact hc
    rw [d1, d2] at c1
    rw [prop_no hd]
    clear hd d1 d2
    go_enter Tryd.func30, Tryd.ntmps30
    go_wp2_with fail
    refine c1.mono ?_
    rintro e w1 ⟨⟨v, rfl, _⟩, hb⟩
    go_wp2
    go_ret
    exact ⟨rfl, hb⟩
  | ok p =>
    obtain ⟨hP, hpl, _, _⟩ := enc_dec hd
    obtain ⟨d1, d2⟩ := dec_ok hd
    have cE := fun A c B W hA hB => refEnc_any (p.map (fun n : Nat => (n : Int))) A p.length c B W hA hB
    rw [encL_of hP hpl] at cE
    obtain ⟨X, hX⟩ : ∃ X, X = bs (encB p) := ⟨_, rfl⟩
    rw [show ((0 : Nat), encB p).2 = encB p from rfl, show (((0 : Nat), encB p).1 : Nat) = 0 from rfl, ← hX] at cE
    obtain ⟨q, hq⟩ : ∃ q, (X.toList == s.toList) = q := ⟨_, rfl⟩
    have HR : Hid (propL (ls s) = (othK p p.length && !(bigK p p.length) && q)) := by
      show _ = _
      rw [prop_ok hd, ← hq, hX, toList_ls, toList_ls, ls_bs]
      congr 1
      by_cases he : encB p = ls s
      · rw [he]; simp
      · rw [decide_eq_false he]; simp [he]
    have HB : Hid (∀ k (hk : k < p.length), bigP p[k] = true → propL (ls s) = false) := fun k hk => prop_big hd k hk
    obtain ⟨R, hRR⟩ : ∃ R, R = propL (ls s) := ⟨_, rfl⟩
    rw [← hRR] at HR HB ⊢
    rw [d1, d2] at c1
    have HPL := Lib.hid hpl
    clear hd d1 d2 hX hP hRR
    go_enter Tryd.func30, Tryd.ntmps30
    go_wp2_with fail
    refine c1.mono ?_
    rintro e w1 ⟨⟨v, rfl, hown⟩, hb⟩
    rw [nvI_zv] at hown
    obtain ⟨A1, k1, rfl, hh, _⟩ := Has.of_own hown
    have c2 := cE A1 k1 _ w1 hh (Nat.le_refl _)
    have H := Lib.hid hh
    clear hh hown cE c1
    go_wp2
    go_loop [5, 6] (fun o i => ∃ k : Nat, k ≤ p.length ∧ i = .int .i64 k ∧ o = .bool (othK p k) ∧ Hid (bigK p k = false)) (fun _ i => p.length - (intOf i).toNat)
    case atStart => exact ⟨0, Nat.zero_le _, rfl, rfl, rfl⟩
    case round =>
      obtain ⟨k, hk, rfl, rfl, HK⟩ := hrel
      by_cases hlt : k < p.length
      · obtain ⟨b1, o1, rfl, hl1, hc1⟩ := H.out.2 (by omega)
        have g1 := hc1 k (by simp; exact hlt)
        rw [List.getElem_map, List.getElem_map] at g1
        have HO := Lib.hid (othK_succ p k hlt)
        have HG := Lib.hid (bigK_succ p k hlt)
        have HBk := Lib.hid (HB.out k hlt)
        obtain ⟨x, hx⟩ : ∃ x, x = p[k] := ⟨_, rfl⟩
        rw [← hx] at g1 HO HG HBk
        obtain ⟨o, ho⟩ : ∃ o, o = othK p k := ⟨_, rfl⟩
        rw [← ho] at HO ⊢
        have hkd : decide ((k : Int) < (p.length : Int)) = true := decide_eq_true (by omega)
        have hpl2 : p.length ≤ 256 := HPL.out
        clear hc1 hx ho
        rcases kind_of x with ⟨n1, n2⟩ | ⟨n1, n2, n3⟩ | ⟨n1, n2, n3⟩ | ⟨n1, n3⟩
        · have t1 : decide ((128 : Int) ≤ (x : Int)) = false := decide_eq_false (by omega)
          have t1N : decide (128 ≤ x) = false := decide_eq_false (by omega)
          have t2 : decide ((65 : Int) ≤ (x : Int)) = false := decide_eq_false (by omega)
          have t2N : decide (65 ≤ x) = false := decide_eq_false (by omega)
          have HK2 : Hid (bigK p (k + 1) = false) := by show _ = _; rw [HG.out, HK.out, n2]; rfl
          have HO2 : Hid (othK p (k + 1) = o) := by show _ = _; rw [HO.out, t1N, Bool.or_false]
          clear n1 n2
          cases o
          all_goals
            go_wp2
            go_round
            case rel => exact ⟨k + 1, by omega, by go_num, by rw [HO2.out], HK2⟩
            case measure => simp [intOf]; omega
        · have t1 : decide ((128 : Int) ≤ (x : Int)) = false := decide_eq_false (by omega)
          have t1N : decide (128 ≤ x) = false := decide_eq_false (by omega)
          have t2 : decide ((65 : Int) ≤ (x : Int)) = true := decide_eq_true (by omega)
          have t2N : decide (65 ≤ x) = true := decide_eq_true (by omega)
          have t3 : decide ((x : Int) ≤ 90) = true := decide_eq_true (by omega)
          have t3N : decide (x ≤ 90) = true := decide_eq_true (by omega)
          have HE := Lib.hid (HBk.out n3)
          clear n1 n2 n3
          cases o
          all_goals
            go_wp2
            go_ret
            exact ⟨ret_bool HE.out.symm, hb⟩
        · have t1 : decide ((128 : Int) ≤ (x : Int)) = false := decide_eq_false (by omega)
          have t1N : decide (128 ≤ x) = false := decide_eq_false (by omega)
          have t2 : decide ((65 : Int) ≤ (x : Int)) = true := decide_eq_true (by omega)
          have t2N : decide (65 ≤ x) = true := decide_eq_true (by omega)
          have t3 : decide ((x : Int) ≤ 90) = false := decide_eq_false (by omega)
          have t3N : decide (x ≤ 90) = false := decide_eq_false (by omega)
          have HK2 : Hid (bigK p (k + 1) = false) := by show _ = _; rw [HG.out, HK.out, n3]; rfl
          have HO2 : Hid (othK p (k + 1) = o) := by show _ = _; rw [HO.out, t1N, Bool.or_false]
          clear n1 n2 n3
          cases o
          all_goals
            go_wp2
            go_round
            case rel => exact ⟨k + 1, by omega, by go_num, by rw [HO2.out], HK2⟩
            case measure => simp [intOf]; omega
        · have t1 : decide ((128 : Int) ≤ (x : Int)) = true := decide_eq_true (by omega)
          have t1N : decide (128 ≤ x) = true := decide_eq_true (by omega)
          have t2 : decide ((65 : Int) ≤ (x : Int)) = true := decide_eq_true (by omega)
          have t2N : decide (65 ≤ x) = true := decide_eq_true (by omega)
          have t3 : decide ((x : Int) ≤ 90) = false := decide_eq_false (by omega)
          have t3N : decide (x ≤ 90) = false := decide_eq_false (by omega)
          have HK2 : Hid (bigK p (k + 1) = false) := by show _ = _; rw [HG.out, HK.out, n3]; rfl
          have HO2 : Hid (othK p (k + 1) = true) := by show _ = _; rw [HO.out, t1N, Bool.or_true]
          clear n1 n3
          cases o
          all_goals
            go_wp2
            go_round
            case rel => exact ⟨k + 1, by omega, by go_num, by rw [HO2.out], HK2⟩
            case measure => simp [intOf]; omega
      · obtain rfl : k = p.length := by omega
        have hkd : decide ((p.length : Int) < (p.length : Int)) = false := by simp
        have HR2 : Hid (R = (othK p p.length && q)) := by
          show _ = _
          rw [HR.out, HK.out]
          simp
        obtain ⟨o, ho⟩ : ∃ o, o = othK p p.length := ⟨_, rfl⟩
        rw [← ho] at HR2 ⊢
        clear ho
        cases q <;> cases o
        all_goals
          go_wp2_with fail
          refine c2.mono ?_
          rintro e w2 ⟨rfl, hb2⟩
          go_wp2
          go_ret
          exact ⟨ret_bool (by rw [HR2.out]; rfl), hb.trans (hb2.mono hb.size)⟩

end Go.Proofs.YtoieapdfpbcfpaaDoor
