/-
Contracts of the small functions of package punycode: isPoint, digitByte, digitOf, adapted.
Contracts of package punycode's closure of thresholds, and of the functions that call it: thresholds, appendNumber, addNumber.
Contract of package punycode's addNumber.
Contracts of isASCII, cutBasic and smallestFrom of package punycode.
-/
import Derived.Test.YtdfacgncphmcoaaGreatDoorC33
import Derived.OneCell
import Derived.Test.YtdfacgncphmcoaaGreatDoorShelf
import Derived.Lib.LastIndexByte
import Derived.BigQuiet
namespace Go.Proofs.YtdfacgncphmcoaaGreatDoor
section
open Go.RowKit
theorem isPt_any (z : Int) (w : World) :
    Calls Tryz.prog 204 #[.int .i64 z] w fun e w' => e = .returned (.bool (ptZ z)) ∧ w = w' := by
  by_cases h0 : 0 ≤ z
  · by_cases h1 : z ≤ 1114111
    · by_cases h2 : z < 55296
      · have HE : Hid (ptZ z = true) := by show _ = _; unfold ptZ ptN; simp; omega
        have d0 : decide ((0 : Int) ≤ z) = true := decide_eq_true h0
        have d1 : decide (z ≤ 1114111) = true := decide_eq_true h1
        have d2 : decide (z < 55296) = true := decide_eq_true h2
        go_enter Tryz.func204, Tryz.ntmps204
        go_wp2
        go_ret
        exact ⟨ret_bool HE.out.symm, rfl⟩
      · by_cases h3 : 57343 < z
        · have HE : Hid (ptZ z = true) := by show _ = _; unfold ptZ ptN; simp; omega
          have d0 : decide ((0 : Int) ≤ z) = true := decide_eq_true h0
          have d1 : decide (z ≤ 1114111) = true := decide_eq_true h1
          have d2 : decide (z < 55296) = false := decide_eq_false h2
          have d3 : decide ((57343 : Int) < z) = true := decide_eq_true h3
          go_enter Tryz.func204, Tryz.ntmps204
          go_wp2
          go_ret
          exact ⟨ret_bool HE.out.symm, rfl⟩
        · have HE : Hid (ptZ z = false) := by show _ = _; unfold ptZ ptN; simp; omega
          have d0 : decide ((0 : Int) ≤ z) = true := decide_eq_true h0
          have d1 : decide (z ≤ 1114111) = true := decide_eq_true h1
          have d2 : decide (z < 55296) = false := decide_eq_false h2
          have d3 : decide ((57343 : Int) < z) = false := decide_eq_false h3
          go_enter Tryz.func204, Tryz.ntmps204
          go_wp2
          go_ret
          exact ⟨ret_bool HE.out.symm, rfl⟩
    · have HE : Hid (ptZ z = false) := by show _ = _; unfold ptZ ptN; simp; omega
      have d0 : decide ((0 : Int) ≤ z) = true := decide_eq_true h0
      have d1 : decide (z ≤ 1114111) = false := decide_eq_false h1
      go_enter Tryz.func204, Tryz.ntmps204
      go_wp2
      go_ret
      exact ⟨ret_bool HE.out.symm, rfl⟩
  · have HE : Hid (ptZ z = false) := by show _ = _; unfold ptZ; simp; omega
    have d0 : decide ((0 : Int) ≤ z) = false := decide_eq_false h0
    go_enter Tryz.func204, Tryz.ntmps204
    go_wp2
    go_ret
    exact ⟨ret_bool HE.out.symm, rfl⟩
theorem digB_any (d : Nat) (hd : d < 36) (w : World) :
    Calls Tryz.prog 222 #[.int .i64 (d : Int)] w fun e w' => e = .returned (.int .u8 ((digB d).toNat : Int)) ∧ w = w' := by
  by_cases h : d < 26
  · have d1 : decide ((d : Int) < 26) = true := decide_eq_true (by omega)
    have HE : Hid (((digB d).toNat : Int) = 97 + (d : Int)) := by
      show _ = _
      unfold digB
      rw [if_pos h, UInt8.toNat_ofNat']
      omega
    go_enter Tryz.func222, Tryz.ntmps222
    go_wp2
    go_ret
    exact ⟨ret_int HE.out.symm, rfl⟩
  · have d1 : decide ((d : Int) < 26) = false := decide_eq_false (by omega)
    have HE : Hid (((digB d).toNat : Int) = 48 + ((d : Int) - 26)) := by
      show _ = _
      unfold digB
      rw [if_neg h, UInt8.toNat_ofNat']
      omega
    go_enter Tryz.func222, Tryz.ntmps222
    go_wp2
    go_ret
    exact ⟨ret_int HE.out.symm, rfl⟩
/-- The value of a digit, or 36. -/
def dvN (b : UInt8) : Nat := match pval b with
  | some d => d
  | none => 36
theorem dvN_some {b : UInt8} {d : Nat} (h : pval b = some d) : dvN b = d := by unfold dvN; rw [h]
theorem dvN_none {b : UInt8} (h : pval b = none) : dvN b = 36 := by unfold dvN; rw [h]
theorem digOf_any (b : UInt8) (w : World) :
    Calls Tryz.prog 234 #[.int .u8 (b.toNat : Int)] w fun e w' => e = .returned (.int .i64 (dvN b : Nat)) ∧ w = w' := by
  have hlt := b.toNat_lt
  by_cases h1 : 97 ≤ b.toNat ∧ b.toNat ≤ 122
  · have HE : Hid (((dvN b : Nat) : Int) = (b.toNat : Int) - 97) := by show _ = _; unfold dvN pval; rw [if_pos h1]; show ((b.toNat - 97 : Nat) : Int) = _; omega
    have d1 : decide ((97 : Int) ≤ (b.toNat : Int)) = true := decide_eq_true (by omega)
    have d2 : decide ((b.toNat : Int) ≤ 122) = true := decide_eq_true (by omega)
    go_enter Tryz.func234, Tryz.ntmps234
    go_wp2
    go_ret
    exact ⟨ret_int HE.out.symm, rfl⟩
  · by_cases h2 : 65 ≤ b.toNat ∧ b.toNat ≤ 90
    · have HE : Hid (((dvN b : Nat) : Int) = (b.toNat : Int) - 65) := by show _ = _; unfold dvN pval; rw [if_neg h1, if_pos h2]; show ((b.toNat - 65 : Nat) : Int) = _; omega
      have d1 : decide ((97 : Int) ≤ (b.toNat : Int)) = false := decide_eq_false (by omega)
      have d2 : decide ((65 : Int) ≤ (b.toNat : Int)) = true := decide_eq_true (by omega)
      have d3 : decide ((b.toNat : Int) ≤ 90) = true := decide_eq_true (by omega)
      go_enter Tryz.func234, Tryz.ntmps234
      go_wp2
      go_ret
      exact ⟨ret_int HE.out.symm, rfl⟩
    · by_cases h3 : 48 ≤ b.toNat ∧ b.toNat ≤ 57
      · have HE : Hid (((dvN b : Nat) : Int) = 26 + ((b.toNat : Int) - 48)) := by show _ = _; unfold dvN pval; rw [if_neg h1, if_neg h2, if_pos h3]; show ((b.toNat - 22 : Nat) : Int) = _; omega
        have d1 : decide ((97 : Int) ≤ (b.toNat : Int)) = false := decide_eq_false (by omega)
        have d2 : decide ((65 : Int) ≤ (b.toNat : Int)) = false := decide_eq_false (by omega)
        have d3 : decide ((48 : Int) ≤ (b.toNat : Int)) = true := decide_eq_true (by omega)
        have d4 : decide ((b.toNat : Int) ≤ 57) = true := decide_eq_true (by omega)
        go_enter Tryz.func234, Tryz.ntmps234
        go_wp2
        go_ret
        exact ⟨ret_int HE.out.symm, rfl⟩
      · have HE : Hid (((dvN b : Nat) : Int) = 36) := by show _ = _; unfold dvN pval; rw [if_neg h1, if_neg h2, if_neg h3]; rfl
        have c1 : (decide ((97 : Int) ≤ (b.toNat : Int)) && decide ((b.toNat : Int) ≤ 122)) = false := by rw [Bool.and_eq_false_iff, decide_eq_false_iff_not, decide_eq_false_iff_not]; omega
        have c2 : (decide ((65 : Int) ≤ (b.toNat : Int)) && decide ((b.toNat : Int) ≤ 90)) = false := by rw [Bool.and_eq_false_iff, decide_eq_false_iff_not, decide_eq_false_iff_not]; omega
        have c3 : (decide ((48 : Int) ≤ (b.toNat : Int)) && decide ((b.toNat : Int) ≤ 57)) = false := by rw [Bool.and_eq_false_iff, decide_eq_false_iff_not, decide_eq_false_iff_not]; omega
        go_enter Tryz.func234, Tryz.ntmps234
        go_wp2
        all_goals (go_ret; exact ⟨ret_int HE.out.symm, rfl⟩)
set_option maxHeartbeats 800000 in
theorem adp_any (delta n : Nat) (first : Bool) (hd : delta ≤ 2199023255552) (hn : 1 ≤ n) (hn2 : n ≤ 1000000000) (w : World) :
    Calls Tryz.prog 208 #[.int .i64 (delta : Int), .int .i64 (n : Int), .bool first] w fun e w' => e = .returned (.int .i64 (adp delta n first : Nat)) ∧ w = w' := by
  obtain ⟨R, hR⟩ : ∃ R, R = adp delta n first := ⟨_, rfl⟩
  rw [← hR]
  have e700 : Int.tdiv (delta : Int) 700 = ((delta / 700 : Nat) : Int) := by rw [Int.tdiv_eq_ediv_of_nonneg (by omega)]; omega
  have e2 : Int.tdiv (delta : Int) 2 = ((delta / 2 : Nat) : Int) := by rw [Int.tdiv_eq_ediv_of_nonneg (by omega)]; omega
  have key : ∀ d0 : Nat, d0 ≤ 1099511627776 → Int.tdiv (d0 : Int) (n : Int) = ((d0 / n : Nat) : Int) := by
    intro d0 _
    rw [Int.tdiv_eq_ediv_of_nonneg (by omega)]
    exact (Int.natCast_ediv d0 n).symm
  have hn0 : ¬ (n : Int) = 0 := by omega
  cases first with
  | true =>
    obtain ⟨d0, hd0⟩ : ∃ d0 : Nat, d0 = delta / 700 := ⟨_, rfl⟩
    have hb0 : d0 ≤ 1099511627776 := by omega
    have k0 := key d0 hb0
    obtain ⟨q, hq⟩ : ∃ q : Nat, q = d0 / n := ⟨_, rfl⟩
    have hqb : q ≤ d0 := by rw [hq]; exact Nat.div_le_self _ _
    rw [← hq] at k0
    rw [← hd0] at e700
    have HA : Hid (adpGo (d0 + q) 0 = R) := Lib.hid (by rw [hR, hq, hd0]; rfl)
    clear key hq hd0 hR e2
    go_enter Tryz.func208, Tryz.ntmps208
    go_wp2
    go_loop [0, 7] (fun d k => ∃ D K : Nat, d = .int .i64 D ∧ k = .int .i64 K ∧ K + D ≤ 4398046511104 ∧ Hid (adpGo D K = R)) (fun d _ => (intOf d).toNat)
    case atStart => exact ⟨d0 + q, 0, by go_num, rfl, by omega, HA⟩
    case round =>
      obtain ⟨D, K, rfl, rfl, hDK, HG⟩ := hrel
      by_cases h455 : 455 < D
      · have hc : decide ((455 : Int) < (D : Int)) = true := decide_eq_true (by omega)
        have h35 : Int.tdiv (D : Int) 35 = ((D / 35 : Nat) : Int) := by rw [Int.tdiv_eq_ediv_of_nonneg (by omega)]; omega
        have HG2 : Hid (adpGo (D / 35) (K + 36) = R) := by
          show _ = _
          rw [← HG.out, adpGo.eq_def D K, if_pos h455]
        go_wp2
        go_round
        case rel => exact ⟨D / 35, K + 36, by go_num, by go_num, by omega, HG2⟩
        case measure => simp [intOf]; omega
      · have hc : decide ((455 : Int) < (D : Int)) = false := decide_eq_false (by omega)
        have h38 : Int.tdiv (36 * (D : Int)) ((D : Int) + 38) = ((36 * D / (D + 38) : Nat) : Int) := by
          rw [Int.tdiv_eq_ediv_of_nonneg (by omega)]
          exact (Int.natCast_ediv (36 * D) (D + 38)).symm
        have hq2 : 36 * D / (D + 38) ≤ 36 := by
          refine Nat.div_le_of_le_mul ?_
          rw [Nat.add_mul]
          omega
        have hne : ¬ (D : Int) + 38 = 0 := by omega
        have HG2 : Hid (((K + 36 * D / (D + 38) : Nat) : Int) = (R : Int)) := by
          show _ = _
          rw [← HG.out, adpGo.eq_def D K, if_neg h455]
        obtain ⟨z, hz⟩ : ∃ z, z = 36 * D / (D + 38) := ⟨_, rfl⟩
        rw [← hz] at h38 hq2 HG2
        clear hz
        go_wp2
        go_ret
        exact ⟨ret_int (by rw [← HG2.out]; omega), rfl⟩
  | false =>
    obtain ⟨d0, hd0⟩ : ∃ d0 : Nat, d0 = delta / 2 := ⟨_, rfl⟩
    have hb0 : d0 ≤ 1099511627776 := by omega
    have k0 := key d0 hb0
    obtain ⟨q, hq⟩ : ∃ q : Nat, q = d0 / n := ⟨_, rfl⟩
    have hqb : q ≤ d0 := by rw [hq]; exact Nat.div_le_self _ _
    rw [← hq] at k0
    rw [← hd0] at e2
    have HA : Hid (adpGo (d0 + q) 0 = R) := Lib.hid (by rw [hR, hq, hd0]; rfl)
    clear key hq hd0 hR e700
    go_enter Tryz.func208, Tryz.ntmps208
    go_wp2
    go_loop [0, 7] (fun d k => ∃ D K : Nat, d = .int .i64 D ∧ k = .int .i64 K ∧ K + D ≤ 4398046511104 ∧ Hid (adpGo D K = R)) (fun d _ => (intOf d).toNat)
    case atStart => exact ⟨d0 + q, 0, by go_num, rfl, by omega, HA⟩
    case round =>
      obtain ⟨D, K, rfl, rfl, hDK, HG⟩ := hrel
      by_cases h455 : 455 < D
      · have hc : decide ((455 : Int) < (D : Int)) = true := decide_eq_true (by omega)
        have h35 : Int.tdiv (D : Int) 35 = ((D / 35 : Nat) : Int) := by rw [Int.tdiv_eq_ediv_of_nonneg (by omega)]; omega
        have HG2 : Hid (adpGo (D / 35) (K + 36) = R) := by
          show _ = _
          rw [← HG.out, adpGo.eq_def D K, if_pos h455]
        go_wp2
        go_round
        case rel => exact ⟨D / 35, K + 36, by go_num, by go_num, by omega, HG2⟩
        case measure => simp [intOf]; omega
      · have hc : decide ((455 : Int) < (D : Int)) = false := decide_eq_false (by omega)
        have h38 : Int.tdiv (36 * (D : Int)) ((D : Int) + 38) = ((36 * D / (D + 38) : Nat) : Int) := by
          rw [Int.tdiv_eq_ediv_of_nonneg (by omega)]
          exact (Int.natCast_ediv (36 * D) (D + 38)).symm
        have hq2 : 36 * D / (D + 38) ≤ 36 := by
          refine Nat.div_le_of_le_mul ?_
          rw [Nat.add_mul]
          omega
        have hne : ¬ (D : Int) + 38 = 0 := by omega
        have HG2 : Hid (((K + 36 * D / (D + 38) : Nat) : Int) = (R : Int)) := by
          show _ = _
          rw [← HG.out, adpGo.eq_def D K, if_neg h455]
        obtain ⟨z, hz⟩ : ∃ z, z = 36 * D / (D + 38) := ⟨_, rfl⟩
        rw [← hz] at h38 hq2 HG2
        clear hz
        go_wp2
        go_ret
        exact ⟨ret_int (by rw [← HG2.out]; omega), rfl⟩
end

section
open Go.RowKit
/-- The two variables of a closure of thresholds: K calls of it are done. -/
structure Clo (w : World) (B bk bb K bias : Nat) : Prop where
  lk : B ≤ bk
  ne : bk ≠ bb
  hk : w.heap[bk]? = some (.cells #[.int .i64 ((36 * K : Nat) : Int)] 3 (0, 0))
  hb : w.heap[bb]? = some (.cells #[.int .i64 (bias : Int)] 3 (0, 0))
theorem Clo.mono {w : World} {B B' bk bb K bias : Nat} (h : Clo w B bk bb K bias) (hB : B' ≤ B) : Clo w B' bk bb K bias := ⟨Nat.le_trans hB h.lk, h.ne, h.hk, h.hb⟩
theorem Clo.kept {w w' : World} {B bk bb K bias : Nat} {row : Option Nat} (h : Clo w B bk bb K bias) (hg : w.grownBy w' row) (h1 : some bk ≠ row) (h2 : some bb ≠ row) : Clo w' B bk bb K bias :=
  ⟨h.lk, h.ne, (hg.block bk (lt_of_block h.hk) h1).trans h.hk, (hg.block bb (lt_of_block h.hb) h2).trans h.hb⟩
theorem own_no_int {w : World} {base b n : Nat} {v u : Value} {xs : List Value} (h : w.ownsRow base 5 1 v n xs) (hb : w.heap[b]? = some (.cells #[u] 3 (0, 0))) : some b ≠ v.ownBlock := by
  rcases h.2 with ⟨rfl, _⟩ | ⟨g, cap, cur, rfl, _, hg, _⟩
  · simp [Value.ownBlock]
  · intro he
    simp [Value.ownBlock] at he
    subst he
    rw [hb] at hg
    simp at hg
theorem grown_setCell (w : World) (b : Nat) (u : Value) : w.grownBy (w.setCell ⟨b, 0, none⟩ u) (some b) :=
  ⟨rfl, rfl, rfl, by simp [World.setCell], fun k _ hne => Below.heap_setCell _ _ _ _ (fun e => hne (by rw [e]))⟩
set_option maxRecDepth 20000 in
theorem thr_make (bias : Nat) (_hb : bias ≤ 1000000) (w : World) :
    Calls Tryz.prog 207 #[.int .i64 (bias : Int)] w fun e w' => (∃ bk bb, e = .returned (.func (.func 223) #[] #[.pointer (some ⟨bk, 0, none⟩), .pointer (some ⟨bb, 0, none⟩)]) ∧ Clo w' w.heap.size bk bb 0 bias) ∧ Below w.heap.size w w' := by
  have hmf : ∀ (fn : Fn) (first cap : Array Value) (w : World), (Instr.makeFunc fn first cap).run Tryz.prog w = .ok (.func fn first cap) w := fun _ _ _ _ => rfl
  go_enter Tryz.func207, Tryz.ntmps207
  go_wp2
  go_ret
  refine ⟨⟨_, _, rfl, ⟨by omega, by omega, ?_, ?_⟩⟩, ((Below.refl _ _).alloc (Nat.le_refl _) _).alloc (by simp) _⟩
  · show ((w.heap.push _).push _)[w.heap.size + 1]? = _
    rw [Array.getElem?_push, if_pos (by simp)]
    rfl
  · show ((w.heap.push _).push _)[w.heap.size]? = _
    rw [Array.getElem?_push, if_neg (by simp), Array.getElem?_push, if_pos rfl]
theorem thr_clo (K bias : Nat) (x : Int) (hx : max ((36 : Int) * K + 36 - bias) 1 = x) : min x 26 = ((thr K bias : Nat) : Int) := by rw [← hx]; unfold thr; omega
set_option maxRecDepth 20000 in
/-- One call of the closure. -/
theorem clo_call (w : World) (B bk bb K bias : Nat) (hc : Clo w B bk bb K bias) (hK : K ≤ 100000000) (hbi : bias ≤ 1000000) :
    Calls Tryz.prog 223 #[.pointer (some ⟨bk, 0, none⟩), .pointer (some ⟨bb, 0, none⟩)] w fun e w' => e = .returned (.int .i64 (thr K bias : Nat)) ∧ Clo w' B bk bb (K + 1) bias ∧ w.grownBy w' (some bk) := by
  have c1 := cell_of_one hc.hk
  have c2 := cell_of_one hc.hb
  have f1 := free_of_one hc.hk
  obtain ⟨z, hz⟩ : ∃ z : Int, z = ((36 * K : Nat) : Int) := ⟨_, rfl⟩
  rw [← hz] at c1
  have hne := hc.ne
  have c3 : (w.setCell ⟨bk, 0, none⟩ (.int .i64 (z + 36))).cell? ⟨bk, 0, none⟩ = some (.int .i64 (z + 36)) := cell_of_one (one_setCell hc.hk)
  have c4 : (w.setCell ⟨bk, 0, none⟩ (.int .i64 (z + 36))).cell? ⟨bb, 0, none⟩ = some (.int .i64 (bias : Int)) := by
    rw [World.cell?_of_block (w := w) (Below.heap_setCell _ _ _ _ (fun e => hne e.symm))]
    exact c2
  obtain ⟨x, hx⟩ : ∃ x, max (z + 36 - (bias : Int)) (1 : Int) = x := ⟨_, rfl⟩
  have hy : min x (26 : Int) = (thr K bias : Nat) := thr_clo K bias x (by rw [← hx, hz]; omega)
  have hmax : ∀ (W : World) ts ty, (Builtin.max_ ts ty #[.int .i64 (z + 36 - (bias : Int)), .int .i64 1]).run Tryz.prog W = .ok (.int .i64 x) W := fun W ts ty => max_two W ts ty _ _ _ hx
  have hmin : ∀ (W : World) ts ty, (Builtin.min_ ts ty #[.int .i64 x, .int .i64 26]).run Tryz.prog W = .ok (.int .i64 (thr K bias : Nat)) W := fun W ts ty => min_two W ts ty _ _ _ hy
  have hz0 : 0 ≤ z := by omega
  have hz1 : z ≤ 3600000000 := by omega
  have HC : Hid (Clo (w.setCell ⟨bk, 0, none⟩ (.int .i64 (z + 36))) B bk bb (K + 1) bias) := by
    refine Lib.hid ⟨hc.lk, hne, ?_, (Below.heap_setCell _ _ _ _ (fun e => hne e.symm)).trans hc.hb⟩
    have := one_setCell (u := .int .i64 (z + 36)) hc.hk
    rw [show ((36 * (K + 1) : Nat) : Int) = z + 36 by omega]
    exact this
  clear hx hy hz hc
  go_enter Tryz.func223, Tryz.ntmps223
  go_wp2
  go_ret
  exact ⟨rfl, HC.out, grown_setCell _ _ _⟩
set_option maxRecDepth 20000 in
set_option maxHeartbeats 2000000 in
/-- appendNumber: the digits of a number behind bytes of the caller's own. -/
theorem appN_any (B : Nat) (w0 w : World) (v : Value) (X : List UInt8) (N : Nat) (hN : N = X.length) (e bias bk bb : Nat) (hown : w.ownsRow B 5 1 v N (X.map bv)) (hc : Clo w B bk bb 0 bias) (hb : Below B w0 w) (hB : B ≤ w0.heap.size) (he : e ≤ 17179869184) (hbi : bias ≤ 1000) (hX : N ≤ 4000) :
    Calls Tryz.prog 206 #[v, .int .i64 (e : Int), .func (.func 223) #[] #[.pointer (some ⟨bk, 0, none⟩), .pointer (some ⟨bb, 0, none⟩)]] w fun e' w' => (∃ v', e' = .returned v' ∧ w'.ownsRow B 5 1 v' (N + (genV e 0 bias).length) ((X ++ (genV e 0 bias).map digB).map bv)) ∧ Below B w0 w' := by
  obtain ⟨i5, hi5, hz0, hz1, hz2⟩ := info_parts infoU8
  have hgl : (genV e 0 bias).length ≤ 12 := genV_len 11 e 0 bias (Nat.lt_of_le_of_lt he (by decide))
  have HGL := Lib.hid hgl
  have HC0 := Lib.hid hc
  clear hgl hc
  go_enter Tryz.func206, Tryz.ntmps206
  go_wp2_with fail
  go_loopw [0, 1] (fun v q wr => ∃ (Q K : Nat) (L : List Nat), q = .int .i64 Q ∧ Q ≤ 17179869184 ∧ K ≤ 12 ∧ Hid (K = L.length) ∧ Hid (L ++ genV Q K bias = genV e 0 bias) ∧
    wr.ownsRow B 5 1 v (N + K) ((X ++ L.map digB).map bv) ∧ Hid (Clo wr B bk bb K bias) ∧ Below B w0 wr) (fun _ q _ => (intOf q).toNat)
  case atStart => exact ⟨e, 0, [], rfl, he, by omega, Lib.hid rfl, Lib.hid rfl, by simpa using hown, HC0, hb⟩
  case round =>
    clear hown hb
    obtain ⟨Q, K, L, rfl, hQ, hK, HK, HLG, hown, HC, hb⟩ := hrel
    have ht := thr_range K bias
    have cT := fun h1 h2 => clo_call wr B bk bb K bias HC.out h1 h2
    replace cT := cT (by omega) (by omega)
    have hlenG : L.length + (genV Q K bias).length ≤ 12 := by have := HGL.out; rw [← HLG.out, List.length_append] at this; exact this
    have hno := own_no_int hown HC.out.hk
    have HNO := Lib.hid hno
    have HLK := Lib.hid HC.out.lk
    clear hno
    by_cases hqt : Q < thr K bias
    · have hone := genV_one hqt
      have hge : decide ((Q : Int) < ((thr K bias : Nat) : Int)) = true := decide_eq_true (by omega)
      have hgeN : decide (Q < thr K bias) = true := decide_eq_true hqt
      have cD := digB_any Q (by omega)
      have HLE : Hid (X ++ (genV e 0 bias).map digB = (X ++ L.map digB) ++ [digB Q]) := by
        show _ = _
        rw [← HLG.out, hone, List.map_append, List.append_assoc]
        rfl
      have HLL : Hid (N + (genV e 0 bias).length = N + K + 1) := by
        show _ = _
        rw [← HLG.out, hone, List.length_append, HK.out]
        rfl
      generalize thr K bias = t at *
      clear hone hlenG
      go_wp2_with fail
      refine cT.mono ?_
      rintro e' w1 ⟨rfl, hc1, hg1⟩
      have hown1 := hown.kept hg1 (.inr (fun h => HNO.out h.symm))
      have hb1 := hb.grown hg1 (Nat.le_trans hB hb.size) (fun k hk => by injection hk with hk; rw [← hk]; exact HLK.out)
      clear hg1 hown hb hc1
      go_wp2_with (first
        | (go_at_call 222; refine (cD _).mono ?_; rintro e w' ⟨rfl, rfl⟩)
        | (at_builtin; refine wpList_app_one w1 rfl _ _ 40 rfl B 5 i5 (.int .u8 0) 1 tyBs hi5 hz0 hz1 hz2 rfl _ (by exact rfl) _ _ _ (by exact rfl) hown1 (by exact rfl) (by unfold maxLen; omega) (by omega) hb1 hB ?_; intro v' w' hown' hb' _))
      go_ret
      refine ⟨⟨_, rfl, ?_⟩, hb'⟩
      rw [HLE.out, HLL.out, List.map_append]
      exact hown'
    · have hmore := genV_more hqt
      have hge : decide ((Q : Int) < ((thr K bias : Nat) : Int)) = false := decide_eq_false (by omega)
      have hgeN : decide (Q < thr K bias) = false := decide_eq_false hqt
      have hless := gen_less Q _ hqt ht.1
      obtain ⟨t, hte⟩ : ∃ t, t = thr K bias := ⟨_, rfl⟩
      rw [← hte] at hmore hge hgeN hless ht hqt cT
      obtain ⟨rm, hrm⟩ : ∃ rm, rm = (Q - t) % (36 - t) := ⟨_, rfl⟩
      obtain ⟨Q2, hQ2⟩ : ∃ Q2, Q2 = (Q - t) / (36 - t) := ⟨_, rfl⟩
      have hrmb : rm < 36 - t := by rw [hrm]; exact Nat.mod_lt _ (by omega)
      have hmod : Int.tmod ((Q : Int) - (t : Int)) (36 - (t : Int)) = (rm : Int) := by
        rw [Int.tmod_eq_emod_of_nonneg (by omega), hrm, show ((Q : Int) - (t : Int)) = ((Q - t : Nat) : Int) by omega, show (36 - (t : Int)) = ((36 - t : Nat) : Int) by omega]
        exact (Int.natCast_emod _ _).symm
      have hdiv : Int.tdiv ((Q : Int) - (t : Int)) (36 - (t : Int)) = (Q2 : Int) := by
        rw [Int.tdiv_eq_ediv_of_nonneg (by omega), hQ2, show ((Q : Int) - (t : Int)) = ((Q - t : Nat) : Int) by omega, show (36 - (t : Int)) = ((36 - t : Nat) : Int) by omega]
        exact (Int.natCast_ediv _ _).symm
      have hne0 : ¬ (36 - (t : Int) = 0) := by omega
      rw [← hrm, ← hQ2] at hmore
      rw [← hQ2] at hless
      have cD := digB_any (t + rm) (by omega)
      rw [show ((t + rm : Nat) : Int) = (t : Int) + (rm : Int) by omega] at cD
      have HL2 : Hid ((L ++ [t + rm]) ++ genV Q2 (K + 1) bias = genV e 0 bias) := by
        show _ = _
        rw [← HLG.out, hmore, List.append_assoc]
        rfl
      have hK12 : K + 1 ≤ 12 := by
        rw [hmore, List.length_cons] at hlenG
        have := HK.out
        omega
      have HXL : Hid ((X ++ (L ++ [t + rm]).map digB).map bv = (X ++ L.map digB).map bv ++ [bv (digB (t + rm))]) := by
        show _ = _
        simp
      clear hmore hrm hQ2 hlenG hte hqt
      go_wp2_with fail
      refine cT.mono ?_
      rintro e' w1 ⟨rfl, hc1, hg1⟩
      have hown1 := hown.kept hg1 (.inr (fun h => HNO.out h.symm))
      have hb1 := hb.grown hg1 (Nat.le_trans hB hb.size) (fun k hk => by injection hk with hk; rw [← hk]; exact HLK.out)
      have HN1 := Lib.hid (own_no_int hown1 hc1.hk)
      have HN2 := Lib.hid (own_no_int hown1 hc1.hb)
      have HC1 := Lib.hid hc1
      clear hg1 hown hb hc1
      go_wp2_with (first
        | (go_at_call 222; refine (cD _).mono ?_; rintro e w' ⟨rfl, rfl⟩)
        | (at_builtin; refine wpList_app_one w1 rfl _ _ 40 rfl B 5 i5 (.int .u8 0) 1 tyBs hi5 hz0 hz1 hz2 rfl _ (by exact rfl) _ _ _ (by exact rfl) hown1 (by exact rfl) (by unfold maxLen; omega) (by omega) hb1 hB ?_; intro v' w' hown' hb' hg'))
      go_roundw
      case rel =>
        refine ⟨Q2, K + 1, L ++ [t + rm], rfl, by omega, hK12, ?_, HL2, ?_, Lib.hid (HC1.out.kept hg' HN1.out HN2.out), hb'⟩
        · show _ = _
          rw [List.length_append, ← HK.out]
          rfl
        · rw [HXL.out]
          exact hown'
      case measure => simp [intOf]; omega
end

section
open Go.RowKit
/-- What addNumber answers. -/
def addE : Except Nat (Nat × List UInt8) → Nat
  | .error c => c
  | .ok _ => 0
def addI : Except Nat (Nat × List UInt8) → Nat
  | .error _ => 0
  | .ok (j, _) => j
def addS (n : Nat) : Except Nat (Nat × List UInt8) → Nat
  | .error _ => 0
  | .ok (_, r) => n - r.length
theorem add_err {x : Except Nat (Nat × List UInt8)} {c n : Nat} (h : x = .error c) : addE x = c ∧ addI x = 0 ∧ addS n x = 0 := by subst h; exact ⟨rfl, rfl, rfl⟩
theorem add_ok {x : Except Nat (Nat × List UInt8)} {j n : Nat} {r : List UInt8} (h : x = .ok (j, r)) : addE x = 0 ∧ addI x = j ∧ addS n x = n - r.length := by subst h; exact ⟨rfl, rfl, rfl⟩
theorem ret_three {a a' b b' c c' : Nat} (h1 : a = a') (h2 : b = b') (h3 : c = c') : Ending.returned (.tuple #[.int .i64 (a : Int), .int .i64 (b : Int), .int .i64 (c : Int)]) = .returned (.tuple #[.int .i64 (a' : Int), .int .i64 (b' : Int), .int .i64 (c' : Int)]) := by rw [h1, h2, h3]
set_option maxRecDepth 20000 in
set_option maxHeartbeats 4000000 in
theorem addN_any (B : Nat) (w : World) (s : ByteArray) (I bias bk bb : Nat) (hc : Clo w B bk bb 0 bias) (hB : B ≤ w.heap.size) (hI : I ≤ 1000000) (hbi : bias ≤ 1000) (hs : s.size ≤ 1000000) :
    Calls Tryz.prog 228 #[.int .i64 (I : Int), .string s, .func (.func 223) #[] #[.pointer (some ⟨bk, 0, none⟩), .pointer (some ⟨bb, 0, none⟩)]] w fun e w' =>
      e = .returned (.tuple #[.int .i64 (addI (rdNum (ls s) bias 0 1 I) : Nat), .int .i64 (addS s.size (rdNum (ls s) bias 0 1 I) : Nat), .int .i64 (addE (rdNum (ls s) bias 0 1 I) : Nat)]) ∧ Below B w w' := by
  obtain ⟨R, hR⟩ : ∃ R, R = rdNum (ls s) bias 0 1 I := ⟨_, rfl⟩
  rw [← hR]
  have HR := Lib.hid hR
  have HC0 := Lib.hid hc
  clear hR hc
  go_enter Tryz.func228, Tryz.ntmps228
  go_wp2_with fail
  go_loopw [0, 9, 15] (fun iv wv av wr => ∃ (a i' w' : Nat), iv = .int .i64 i' ∧ wv = .int .i64 w' ∧ av = .int .i64 a ∧ a ≤ s.size ∧ i' ≤ 1099511627776 ∧ w' ≤ 1099511627776 ∧ Hid (R = rdNum ((ls s).drop a) bias a w' i') ∧ Hid (Clo wr B bk bb a bias) ∧ Below B w wr) (fun _ _ av _ => s.size - (intOf av).toNat)
  case atStart => exact ⟨0, I, 1, rfl, rfl, rfl, Nat.zero_le _, by omega, by omega, HR, HC0, Below.refl _ _⟩
  case round =>
    obtain ⟨a', i', w', rfl, rfl, rfl, ha', hi', hw', HRD, HC, hb⟩ := hrel
    by_cases hlt5 : a' < s.size
    · have hged : decide ((a' : Int) < (s.size : Int)) = true := decide_eq_true (by omega)
      have hgeN : decide (a' < s.size) = true := decide_eq_true hlt5
      have hdr := drop_ls_cons s a' hlt5
      have cV := digOf_any s[a']
      cases hpv : pval s[a'] with
      | none =>
        rw [dvN_none hpv] at cV
        obtain ⟨e1, e2, e3⟩ := add_err (n := s.size) (show R = .error 4 by rw [HRD.out, hdr, rdNum, hpv])
        have HE := Lib.hid e1
        have HE2 := Lib.hid e2
        have HE3 := Lib.hid e3
        clear hdr hpv e1 e2 e3
        go_wp2_with (go_at_call 234; refine (cV _).mono ?_; rintro e w' ⟨rfl, rfl⟩)
        go_ret3
        exact ⟨ret_three HE2.out.symm HE3.out.symm HE.out.symm, hb⟩
      | some d =>
        rw [dvN_some hpv] at cV
        have hd36 := pval_lt hpv
        have hdn : ((d : Int) == 36) = false := by rw [beq_eq_false_iff_ne]; omega
        have hdnN : (d == 36) = false := by rw [beq_eq_false_iff_ne]; omega
        have hrd : R = if 1099511627776 < i' + d * w' then .error 19 else if d < thr a' bias then .ok (i' + d * w', (ls s).drop (a' + 1)) else if 1099511627776 < w' * (36 - thr a' bias) then .error 19 else rdNum ((ls s).drop (a' + 1)) bias (a' + 1) (w' * (36 - thr a' bias)) (i' + d * w') := by rw [HRD.out, hdr, rdNum, hpv]
        have hdw : (d : Int) * (w' : Int) = ((d * w' : Nat) : Int) := by simp
        have hdwb : d * w' ≤ 35 * 1099511627776 := Nat.mul_le_mul (by omega) hw'
        obtain ⟨i2, hi2⟩ : ∃ i2, i2 = i' + d * w' := ⟨_, rfl⟩
        rw [← hi2] at hrd
        have hdw0 : 0 ≤ (d : Int) * (w' : Int) := by omega
        have hdw1 : (d : Int) * (w' : Int) ≤ 38482906972160 := by omega
        have hi2i : (i' : Int) + (d : Int) * (w' : Int) = (i2 : Int) := by omega
        have hi2b : i2 ≤ 39582418599936 := by omega
        have ht := thr_range a' bias
        have cT := clo_call wr B bk bb a' bias HC.out (by omega) (by omega)
        have HRD2 := Lib.hid hrd
        have HLK := Lib.hid HC.out.lk
        clear hdr hpv hdw hdwb hi2 hrd
        by_cases hov : 1099511627776 < i2
        · have hovd : decide ((1099511627776 : Int) < (i2 : Int)) = true := decide_eq_true (by omega)
          have hovN : decide (1099511627776 < i2) = true := decide_eq_true hov
          obtain ⟨e1, e2, e3⟩ := add_err (n := s.size) (show R = .error 19 by rw [HRD2.out, if_pos hov])
          have HE := Lib.hid e1
          have HE2 := Lib.hid e2
          have HE3 := Lib.hid e3
          clear e1 e2 e3
          go_wp2_with (go_at_call 234; refine (cV _).mono ?_; rintro e w' ⟨rfl, rfl⟩)
          go_ret3
          exact ⟨ret_three HE2.out.symm HE3.out.symm HE.out.symm, hb⟩
        · have hovd : decide ((1099511627776 : Int) < (i2 : Int)) = false := decide_eq_false (by omega)
          have hovN : decide (1099511627776 < i2) = false := decide_eq_false hov
          obtain ⟨t, hte⟩ : ∃ t, t = thr a' bias := ⟨_, rfl⟩
          rw [← hte] at HRD2 ht cT
          clear hte
          by_cases hdt : d < t
          · have hdtd : decide ((d : Int) < (t : Int)) = true := decide_eq_true (by omega)
            have hdtN : decide (d < t) = true := decide_eq_true hdt
            obtain ⟨e1, e2, e3⟩ := add_ok (n := s.size) (show R = .ok (i2, (ls s).drop (a' + 1)) by rw [HRD2.out, if_neg hov, if_pos hdt])
            rw [List.length_drop, ls_length, show s.size - (s.size - (a' + 1)) = a' + 1 by omega] at e3
            have HE := Lib.hid e1
            have HE2 := Lib.hid e2
            have HE3 := Lib.hid e3
            clear e1 e2 e3
            go_wp2_with (go_at_call 234; refine (cV _).mono ?_; rintro e w' ⟨rfl, rfl⟩)
            refine cT.mono ?_
            rintro e w1 ⟨rfl, hc1, hg1⟩
            have hb1 := hb.grown hg1 (Nat.le_trans hB hb.size) (fun k hk => by injection hk with hk; rw [← hk]; exact HLK.out)
            clear hc1 hg1 hb
            go_wp2
            go_ret3
            exact ⟨ret_three HE2.out.symm HE3.out.symm HE.out.symm, hb1⟩
          · have hdtd : decide ((d : Int) < (t : Int)) = false := decide_eq_false (by omega)
            have hdtN : decide (d < t) = false := decide_eq_false hdt
            have hwt : (w' : Int) * (36 - (t : Int)) = ((w' * (36 - t) : Nat) : Int) := by rw [Int.natCast_mul, Int.natCast_sub (by omega)]; rfl
            have hwtb : w' * (36 - t) ≤ 1099511627776 * 35 := Nat.mul_le_mul hw' (by omega)
            obtain ⟨w2, hw2⟩ : ∃ w2, w2 = w' * (36 - t) := ⟨_, rfl⟩
            rw [← hw2] at hwt hwtb
            have hwt0 : 0 ≤ (w' : Int) * (36 - (t : Int)) := by omega
            have hwt1 : (w' : Int) * (36 - (t : Int)) ≤ 38482906972160 := by omega
            have HRD3 : Hid (R = if 1099511627776 < w2 then .error 19 else rdNum ((ls s).drop (a' + 1)) bias (a' + 1) w2 i2) := by
              show _ = _
              rw [HRD2.out, if_neg hov, if_neg hdt, ← hw2]
            clear hw2 HRD2
            by_cases hwo : 1099511627776 < w2
            · have hwod : decide ((1099511627776 : Int) < (w2 : Int)) = true := decide_eq_true (by omega)
              have hwoN : decide (1099511627776 < w2) = true := decide_eq_true hwo
              obtain ⟨e1, e2, e3⟩ := add_err (n := s.size) (show R = .error 19 by rw [HRD3.out, if_pos hwo])
              have HE := Lib.hid e1
              have HE2 := Lib.hid e2
              have HE3 := Lib.hid e3
              clear e1 e2 e3
              go_wp2_with (go_at_call 234; refine (cV _).mono ?_; rintro e w' ⟨rfl, rfl⟩)
              refine cT.mono ?_
              rintro e w1 ⟨rfl, hc1, hg1⟩
              have hb1 := hb.grown hg1 (Nat.le_trans hB hb.size) (fun k hk => by injection hk with hk; rw [← hk]; exact HLK.out)
              clear hc1 hg1 hb
              go_wp2
              go_ret3
              exact ⟨ret_three HE2.out.symm HE3.out.symm HE.out.symm, hb1⟩
            · have hwod : decide ((1099511627776 : Int) < (w2 : Int)) = false := decide_eq_false (by omega)
              have hwoN : decide (1099511627776 < w2) = false := decide_eq_false hwo
              have HRD4 : Hid (R = rdNum ((ls s).drop (a' + 1)) bias (a' + 1) w2 i2) := by
                show _ = _
                rw [HRD3.out, if_neg hwo]
              go_wp2_with (go_at_call 234; refine (cV _).mono ?_; rintro e w' ⟨rfl, rfl⟩)
              refine cT.mono ?_
              rintro e w1 ⟨rfl, hc1, hg1⟩
              have hb1 := hb.grown hg1 (Nat.le_trans hB hb.size) (fun k hk => by injection hk with hk; rw [← hk]; exact HLK.out)
              have HC1 := Lib.hid hc1
              clear hc1 hg1 hb
              go_wp2
              go_roundw
              case rel => exact ⟨a' + 1, i2, w2, by go_num, by go_num, by go_num, by omega, by omega, by omega, HRD4, HC1, hb1⟩
              case measure => simp [intOf]; omega
    · obtain rfl : a' = s.size := by omega
      have hged : decide ((s.size : Int) < (s.size : Int)) = false := by simp
      obtain ⟨e1, e2, e3⟩ := add_err (n := s.size) (show R = .error 4 by rw [HRD.out, drop_ls_all, rdNum])
      have HE := Lib.hid e1
      have HE2 := Lib.hid e2
      have HE3 := Lib.hid e3
      clear e1 e2 e3
      go_wp2
      go_ret3
      exact ⟨ret_three HE2.out.symm HE3.out.symm HE.out.symm, hb⟩
end

section
open Go.RowKit
theorem isAscii_any (s : ByteArray) (hs : s.size ≤ 1000000000) (w : World) :
    Calls Tryz.prog 226 #[.string s] w fun e w' => e = .returned (.bool (!(ls s).any (fun b => decide (128 ≤ b.toNat)))) ∧ w = w' := by
  obtain ⟨R, hR⟩ : ∃ R, R = (ls s).any (fun b => decide (128 ≤ b.toNat)) := ⟨_, rfl⟩
  rw [← hR]
  have HR := Lib.hid hR
  clear hR
  go_enter Tryz.func226, Tryz.ntmps226
  go_wp2
  go_loop [6] (fun i => ∃ k : Nat, k ≤ s.size ∧ i = .int .i64 k ∧ Hid (R = ((ls s).drop k).any (fun b => decide (128 ≤ b.toNat)))) (fun i => s.size - (intOf i).toNat)
  case atStart => exact ⟨0, Nat.zero_le _, rfl, HR⟩
  case round =>
    obtain ⟨k, hk, rfl, HK⟩ := hrel
    by_cases hlt : k < s.size
    · have hdr := drop_ls_cons s k hlt
      have hlt2 : decide ((k : Int) < (s.size : Int)) = true := decide_eq_true (by omega)
      by_cases h128 : 128 ≤ s[k].toNat
      · have hd : decide ((128 : Int) ≤ (s[k].toNat : Int)) = true := decide_eq_true (by omega)
        have hdN : decide (128 ≤ s[k].toNat) = true := decide_eq_true h128
        have HE : Hid ((!R) = false) := by
          show _ = _
          rw [HK.out, hdr, List.any_cons, hdN, Bool.true_or]
          rfl
        clear hdr
        go_wp2
        go_ret
        exact ⟨ret_bool HE.out.symm, rfl⟩
      · have hd : decide ((128 : Int) ≤ (s[k].toNat : Int)) = false := decide_eq_false (by omega)
        have hdN : decide (128 ≤ s[k].toNat) = false := decide_eq_false h128
        have HK2 : Hid (R = ((ls s).drop (k + 1)).any (fun b => decide (128 ≤ b.toNat))) := by
          show _ = _
          rw [HK.out, hdr, List.any_cons, hdN, Bool.false_or]
        clear hdr
        go_wp2
        go_round
        case rel => exact ⟨k + 1, by omega, by go_num, HK2⟩
        case measure => simp [intOf]; omega
    · obtain rfl : k = s.size := by omega
      have hlt2 : decide ((s.size : Int) < (s.size : Int)) = false := by simp
      have HE : Hid ((!R) = true) := by
        show _ = _
        rw [HK.out, drop_ls_all]
        rfl
      go_wp2
      go_ret
      exact ⟨ret_bool HE.out.symm, rfl⟩
theorem cut_at (t : List UInt8) (i : Nat) (hi : i < t.length) (h : t[i] = 45) (hn : ∀ b ∈ t.drop (i + 1), b ≠ 45) : cutL t = i := by
  have e : t = t.take i ++ 45 :: t.drop (i + 1) := by
    rw [← h, List.getElem_cons_drop, List.take_append_drop]
  unfold cutL
  rw [e, cutGo_append, cutGo, if_pos rfl, cutGo_no _ _ _ hn, List.length_take, Nat.zero_add]
  omega
theorem last_cutL (s : ByteArray) : (Lib.lastIndexByte s 45 = -1 ∧ cutL (ls s) = 0) ∨ (Lib.lastIndexByte s 45 = (cutL (ls s) : Int) ∧ cutL (ls s) < s.size) := by
  have hg : ∀ j (hj : j < s.size), ((s.data[j]!).toNat : Int) = 45 ↔ (ls s)[j]'(by rw [ls_length]; exact hj) = 45 := by
    intro j hj
    have hj' : j < s.data.size := hj
    have e : s.data[j]! = (ls s)[j]'(by rw [ls_length]; exact hj) := by
      rw [getElem!_pos s.data j hj']
      rfl
    rw [e]
    constructor
    · intro h
      exact UInt8.toNat_inj.1 (by rw [show (45 : UInt8).toNat = 45 from rfl]; omega)
    · intro h
      rw [h]
      rfl
  rcases Lib.lastIndexByte_spec s 45 with ⟨e, hn⟩ | ⟨i, hi, e, hc, hn⟩
  · refine .inl ⟨e, ?_⟩
    unfold cutL
    refine cutGo_no _ _ _ ?_
    intro c hc h46
    obtain ⟨j, hj, rfl⟩ := List.getElem_of_mem hc
    rw [ls_length] at hj
    exact hn j hj ((hg j hj).2 h46)
  · have hcut : cutL (ls s) = i := by
      refine cut_at _ i (by rw [ls_length]; exact hi) ((hg i hi).1 hc) ?_
      intro c hc h46
      obtain ⟨j, hj, rfl⟩ := List.getElem_of_mem hc
      rw [List.length_drop, ls_length] at hj
      rw [List.getElem_drop] at h46
      exact hn (i + 1 + j) (by omega) (by omega) ((hg _ (by omega)).2 h46)
    exact .inr ⟨by rw [hcut]; exact e, by rw [hcut]; exact hi⟩
theorem cutB_any (s : ByteArray) (hs : s.size ≤ 1000000000) (w : World) :
    Calls Tryz.prog 227 #[.string s] w fun e w' => (∃ k : Nat, e = .returned (.tuple #[.string (bs ((ls s).take (cutL (ls s)))), .string (bs (restL (ls s)))]) ∧ w' = w.drewN k) := by
  have c1 := fun W => Any.strings_LastIndexByte Tryz.lays149 s 45 (by omega) W
  obtain ⟨x, hx⟩ : ∃ x, x = Lib.lastIndexByte s 45 := ⟨_, rfl⟩
  have hcut := last_cutL s
  rw [← hx] at c1 hcut
  by_cases h0 : 0 < x
  · rcases hcut with ⟨h1, _⟩ | ⟨h1, h2⟩
    · omega
    · obtain ⟨C, hC⟩ : ∃ C, C = cutL (ls s) := ⟨_, rfl⟩
      rw [← hC] at h1 h2 ⊢
      subst h1
      have hr : restL (ls s) = (ls s).drop (C + 1) := by unfold restL; rw [← hC, if_pos (by omega)]
      rw [hr]
      have e1 : Hid (bs ((ls s).take C) = s.extract 0 C) := by
        show _ = _
        refine ls_inj ?_
        rw [ls_bs, ls_extract, List.drop_zero, Nat.sub_zero]
      have e2 : Hid (bs ((ls s).drop (C + 1)) = s.extract (C + 1) s.size) := by
        show _ = _
        refine ls_inj ?_
        rw [ls_bs, ls_extract]
        exact (List.take_of_length_le (by rw [List.length_drop, ls_length]; exact Nat.le_refl _)).symm
      have hd : decide ((0 : Int) < (C : Int)) = true := decide_eq_true (by omega)
      have hdN : decide (0 < C) = true := decide_eq_true (by omega)
      have hi0 : (0 : Int) ≤ (C : Int) := by omega
      have hi1 : (C : Int) ≤ (s.size : Int) := by omega
      have hi2 : (C : Int) + 1 ≤ (s.size : Int) := by omega
      rw [e1.out, e2.out]
      clear hx hC hr
      go_enter Tryz.func227, Tryz.ntmps227
      go_wp2_with fail
      refine (c1 _).mono ?_
      rintro e w' ⟨rfl, rfl⟩
      go_wp2_with fail
      go_quiet (fail)
      go_wp2
      go_ret2
      exact ⟨_, rfl, rfl⟩
  · have hC : cutL (ls s) = 0 := by
      rcases hcut with ⟨_, h2⟩ | ⟨h1, _⟩
      · exact h2
      · omega
    have hr : restL (ls s) = ls s := by unfold restL; rw [if_neg (by omega)]
    rw [hr, hC, List.take_zero, bs_ls]
    have hd : decide ((0 : Int) < x) = false := decide_eq_false h0
    clear hx hC hr hcut
    go_enter Tryz.func227, Tryz.ntmps227
    go_wp2_with fail
    refine (c1 _).mono ?_
    rintro e w' ⟨rfl, rfl⟩
    go_wp2_with fail
    go_ret2
    exact ⟨0, rfl, rfl⟩
/-- The least code point from n on, of whatever there is. -/
theorem small_any (n0 : Nat) (_hn : n0 ≤ 1114112) (P : List Nat) (hP : ∀ p ∈ P, ptN p = true) (hl : P.length ≤ 256) (A : Option Addr) (cap B : Nat) (w wr : World) (hA : Has w B A P.length (P.map iv)) (hb : Below w.heap.size w wr) (hB : B ≤ w.heap.size) :
    Calls Tryz.prog 205 #[.int .i64 (n0 : Int), .slice A P.length cap] wr fun e w' => e = .returned (.int .i64 (min 1114111 (leastG n0 P) : Nat)) ∧ wr = w' := by
  obtain ⟨R, hR⟩ : ∃ R, R = min 1114111 (leastG n0 P) := ⟨_, rfl⟩
  rw [← hR]
  have HR := Lib.hid hR
  have HP := Lib.hid hP
  have H := Lib.hid hA
  clear hR hP hA
  go_enter Tryz.func205, Tryz.ntmps205
  go_wp2
  go_loop [5, 10] (fun l i => ∃ (k v : Nat), k ≤ P.length ∧ i = .int .i64 k ∧ l = .int .i64 v ∧ v ≤ 1114111 ∧ Hid (min v (leastG n0 (P.drop k)) = R)) (fun _ i => P.length - (intOf i).toNat)
  case atStart => exact ⟨0, 1114111, Nat.zero_le _, rfl, rfl, Nat.le_refl _, Lib.hid HR.out.symm⟩
  case round =>
    obtain ⟨k, v, hk, rfl, rfl, hv, HV⟩ := hrel
    by_cases hlt2 : k < P.length
    · obtain ⟨b1, o1, rfl, l1, d1⟩ := H.out.2 (by omega)
      have g1 := cell_iv H.out hb hB k hlt2 hlt2
      have hple : P[k] ≤ 1114111 := ptN_le (HP.out _ (List.getElem_mem hlt2))
      have hdr : P.drop k = P[k] :: P.drop (k + 1) := List.drop_eq_getElem_cons hlt2
      obtain ⟨p, hp⟩ : ∃ p, p = P[k] := ⟨_, rfl⟩
      rw [← hp] at g1 hple hdr
      have hkd : decide ((k : Int) < (P.length : Int)) = true := decide_eq_true (by omega)
      clear d1 hp
      by_cases hge : n0 ≤ p
      · have hgd : decide ((n0 : Int) ≤ (p : Int)) = true := decide_eq_true (by omega)
        have hgN : decide (n0 ≤ p) = true := decide_eq_true hge
        obtain ⟨v2, hv2⟩ : ∃ v2 : Nat, v2 = min v p := ⟨_, rfl⟩
        have hmi : min (v : Int) (p : Int) = (v2 : Int) := by rw [hv2]; omega
        have hmin : ∀ (W : World) ts ty, (Builtin.min_ ts ty #[.int .i64 (v : Int), .int .i64 (p : Int)]).run Tryz.prog W = .ok (.int .i64 (v2 : Int)) W := fun W ts ty => min_two W ts ty _ _ _ hmi
        have HV2 : Hid (min v2 (leastG n0 (P.drop (k + 1))) = R) := by
          show _ = _
          have := HV.out
          rw [hdr, leastG, if_pos hge] at this
          rw [hv2, Nat.min_assoc]
          exact this
        have hv2b : v2 ≤ 1114111 := by rw [hv2]; exact Nat.le_trans (Nat.min_le_left _ _) hv
        clear hmi hv2 hdr hge
        go_wp2
        go_round
        case rel => exact ⟨k + 1, v2, by omega, by go_num, rfl, hv2b, HV2⟩
        case measure => simp [intOf]; omega
      · have hgd : decide ((n0 : Int) ≤ (p : Int)) = false := decide_eq_false (by omega)
        have hgN : decide (n0 ≤ p) = false := decide_eq_false hge
        have HV2 : Hid (min v (leastG n0 (P.drop (k + 1))) = R) := by
          show _ = _
          have := HV.out
          rw [hdr, leastG, if_neg hge] at this
          exact this
        clear hdr
        go_wp2
        go_round
        case rel => exact ⟨k + 1, v, by omega, by go_num, rfl, hv, HV2⟩
        case measure => simp [intOf]; omega
    · obtain rfl : k = P.length := by omega
      have hvm : Hid ((v : Int) = (R : Int)) := by
        show _ = _
        have := HV.out
        rw [List.drop_length, leastG, Nat.min_eq_left (by omega)] at this
        rw [this]
      have hkd : decide ((P.length : Int) < (P.length : Int)) = false := by simp
      go_wp2
      go_ret
      exact ⟨ret_int hvm.out, rfl⟩
end

end Go.Proofs.YtdfacgncphmcoaaGreatDoor
