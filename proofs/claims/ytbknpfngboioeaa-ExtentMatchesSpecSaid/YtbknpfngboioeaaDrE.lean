/-
  Read of both disks in one statement each; keep.Ints.
-/
import Derived.Test.YtbknpfngboioeaaDrD
namespace Go.Proofs.Ytbknpfngboioeaa
open Go.RowKit

/-- A slice of bytes that was made since w. -/
def RdV (w w' : World) (v : Value) (l : List UInt8) : Prop := ∃ A m c, v = .slice A m c ∧ (A = none → c = 0) ∧ m ≤ 64 ∧ ∀ G : Nat → Prop, (∀ b, G b → b < w.heap.size) → HasF G w' A m (l.map bv)
theorem rdv_none (w w' : World) : RdV w w' (.slice none 0 0) [] := ⟨none, 0, 0, rfl, fun _ => rfl, by omega, fun G _ => ⟨rfl, fun h => absurd h (by omega)⟩⟩
theorem rdv_own {w w' : World} {g c : Nat} {l : List UInt8} (hg : w.heap.size ≤ g) (h : Own8 w' g c 64 l) : RdV w w' (.slice (some ⟨g, 0, none⟩) 64 c) l :=
  ⟨_, _, _, rfl, (fun e => by cases e), by omega, fun G hG => own_hasF h fun hb => by have := hG g hb; omega⟩
/-- What a Read hands back. -/
def Dsk.got (S : Dsk) (n : Nat) (i : Int) : List UInt8 := if S.ans (inR n i) = 0 then S.sec i.toNat else []

theorem read_any {w : World} {F : Nat → Prop} {a n : Nat} {S : Dsk} (h : PD w F a n S) (i : Int) : Calls Try.prog 11 #[.pointer (some ⟨a, 0, none⟩), .int .i64 i] w fun e w' =>
    ∃ v, e = .returned (.tuple #[v, .int .i64 (S.ans (inR n i))]) ∧ RdV w w' v (S.got n i) ∧ PD w' F a n (S.done (inR n i)) ∧ Frm F w w' := by
  by_cases he : S.err (inR n i) = 0
  · cases hok : inR n i with
    | false =>
      rw [hok] at he
      unfold Dsk.err at he
      split at he <;> simp at he
    | true =>
      rw [hok] at he
      cases hp : S.pow true with
      | true =>
        have e1 : S.ans true = 10 := by simp [Dsk.ans, he, hp]
        have e2 : S.done true = (S.begun true).cut := by simp [Dsk.done, he, hp]
        have hc := read_pow h i (by rw [hok]; exact he) (by rw [hok]; exact hp)
        rw [hok] at hc
        refine hc.mono ?_
        rintro e w' ⟨rfl, hpd, hf⟩
        refine ⟨_, by rw [e1], ?_, by rw [e2]; exact hpd, hf⟩
        unfold Dsk.got
        rw [hok, e1]
        exact rdv_none w w'
      | false =>
        have e1 : S.ans true = 0 := by simp [Dsk.ans, he, hp]
        have e2 : S.done true = S.begun true := by simp [Dsk.done, he, hp]
        have hir := hok
        simp only [Bool.and_eq_true, decide_eq_true_eq, inR] at hir
        obtain ⟨k, rfl⟩ : ∃ k : Nat, i = k := ⟨i.toNat, by omega⟩
        refine (read_yes h k (by omega) he hp).mono ?_
        rintro e w' ⟨hpd, hf, g, rfl, hg, hrow⟩
        refine ⟨_, by rw [e1], ?_, by rw [e2]; exact hpd, hf⟩
        unfold Dsk.got
        rw [hok, e1]
        simp only [if_true, Int.toNat_natCast]
        refine rdv_own hg ⟨_, hrow, by simp [h.ok.sec (by omega : k < n)], by omega, ?_⟩
        have := h.ok.sec (by omega : k < n)
        rw [List.toList_toArray, List.take_of_length_le (by rw [List.length_map]; omega)]
  · refine (read_err h i he).mono ?_
    rintro e w' ⟨rfl, hpd, hf⟩
    have e1 : S.ans (inR n i) = S.err (inR n i) := by simp [Dsk.ans, he]
    have e2 : S.done (inR n i) = S.begun (inR n i) := by simp [Dsk.done, he]
    refine ⟨_, by rw [e1], ?_, by rw [e2]; exact hpd, hf⟩
    unfold Dsk.got
    rw [if_neg (by rw [e1]; exact he)]
    exact rdv_none w w'
theorem rread_got {w : World} {F : Nat → Prop} {a n : Nat} {S : Dsk} (h : RD w F a n S) (i : Int) : Calls Try.prog 12 #[.pointer (some ⟨a, 0, none⟩), .int .i64 i] w fun e w' =>
    ∃ v, e = .returned (.tuple #[v, .int .i64 (S.ans (inR n i))]) ∧ RdV w w' v (S.got n i) ∧ RD w' F a n (S.done (inR n i)) ∧ Frm F w w' := by
  refine (rread_any h i).mono ?_
  rintro e w' ⟨v, z, rfl, rfl, hrd, hf, h1, h2⟩
  refine ⟨v, rfl, ?_, hrd, hf⟩
  unfold Dsk.got
  by_cases hz : S.ans (inR n i) = 0
  · rw [if_pos hz]
    obtain ⟨g, c, rfl, hg, ho⟩ := h2 hz
    exact rdv_own hg ho
  · rw [if_neg hz, h1 hz]
    exact rdv_none w w'

set_option maxHeartbeats 1600000 in
theorem ints_any (A1 A2 : Option Addr) (n1 c1 n2 c2 B : Nat) (l : List Int) (w : World) (h1 : Has w B A1 n1 (l.map (Value.int .i64))) (h2 : Has w B A2 n2 (l.map (Value.int .i64))) (hm : l.length ≤ 1000000) (hB : B ≤ w.heap.size) :
    Calls Try.prog 38 #[.slice A1 n1 c1, .slice A2 n2 c2] w fun e w' => e = .returned (.bool true) ∧ Below w.heap.size w w' := by
  have e1 : n1 = l.length := by have := h1.1; simpa using this.symm
  have e2 : n2 = l.length := by have := h2.1; simpa using this.symm
  have e3 : n2 = n1 := by omega
  have hn : n1 ≤ 1000000 := by omega
  have H1 := Lib.hid h1
  have H2 := Lib.hid h2
  have E1 := Lib.hid e1
  subst e3
  clear h1 h2 e1 e2 hm
  have hnb : (n2 : Int) ≤ 1000000 := by omega
  go_enter Try.func38, Try.ntmps38
  go_wp2
  go_loopw [5] (fun i wr => ∃ k : Nat, k ≤ n2 ∧ i = .int .i64 k ∧ Hid (Below w.heap.size w wr)) (fun i _ => n2 - (RowKit.intOf i).toNat)
  case atStart => exact ⟨0, Nat.zero_le _, rfl, Below.refl _ _⟩
  case round =>
    obtain ⟨k, hk, rfl, HR⟩ := hrel
    have hkb : (k : Int) ≤ 1000000 := by omega
    have hkw : wrap64 ((k : Int) + 1) = (k : Int) + 1 := by unfold wrap64; omega
    by_cases hlt : k < n2
    · obtain ⟨b1, o1, rfl, l1, d1⟩ := H1.out.2 (by omega)
      obtain ⟨b2, o2, rfl, l2, d2⟩ := H2.out.2 (by omega)
      have g1 := d1 k (by rw [List.length_map, ← E1.out]; exact hlt)
      have g2 := d2 k (by rw [List.length_map, ← E1.out]; exact hlt)
      rw [List.getElem_map] at g1 g2
      have g1' := (HR.out.cell (p := ⟨b1, o1 + k, none⟩) (Nat.lt_of_lt_of_le l1 hB)).trans g1
      have g2' := (HR.out.cell (p := ⟨b2, o2 + k, none⟩) (Nat.lt_of_lt_of_le l2 hB)).trans g2
      have hd : decide ((k : Int) < (n2 : Int)) = true := by simpa using hlt
      have hlti : (k : Int) < (n2 : Int) := by omega
      generalize l[k] = z at g1' g2'
      have q0 : (z != z) = false := by simp
      clear d1 d2 hk g1 g2
      go_wp2
      go_quiet (fail)
      go_wp2
      go_roundw
      case rel => exact ⟨k + 1, by omega, by go_num, HR.out.trans (below_drewN _ _ _)⟩
      case measure => simp [RowKit.intOf]; omega
    · obtain rfl : k = n2 := by omega
      have hd : decide ((k : Int) < (k : Int)) = false := by simp
      go_wp2
      go_ret
      exact ⟨rfl, HR.out⟩

end Go.Proofs.Ytbknpfngboioeaa
