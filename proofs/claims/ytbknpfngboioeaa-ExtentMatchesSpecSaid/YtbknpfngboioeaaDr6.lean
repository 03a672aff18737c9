/-
  Write, Read and Sync of both disks in one statement each.
-/
import Derived.Test.YtbknpfngboioeaaDr5
namespace Go.Proofs.Ytbknpfngboioeaa
open Go.RowKit

theorem PD.wide {w w1 : World} {F : Nat → Prop} {a n : Nat} {S : Dsk} (h : PD w1 F a n S) (hf : Frm F w w1) : PD w1 (fun b => F b ∨ newF w w1 b) a n S := by
  refine h.more (fun b hb => .inl hb) ?_
  rintro b (hb | hb)
  · exact h.lt b hb
  · exact hb.2
theorem RD.wide {w w1 : World} {F : Nat → Prop} {a n : Nat} {S : Dsk} (h : RD w1 F a n S) (hf : Frm F w w1) : RD w1 (fun b => F b ∨ newF w w1 b) a n S := by
  refine h.more (fun b hb => .inl hb) ?_
  rintro b (hb | hb)
  · exact h.lt b hb
  · exact hb.2

set_option maxHeartbeats 1600000 in
theorem write_any {w : World} {F : Nat → Prop} {a n : Nat} {S : Dsk} (h : PD w F a n S) (i : Int) (A : Option Addr) (len cap : Nat) (l : List UInt8) (hA : HasF F w A len (l.map bv)) :
    Calls Try.prog 14 #[.pointer (some ⟨a, 0, none⟩), .int .i64 i, .slice A len cap] w fun e w' => e = .returned (.int .i64 (S.ans (inR n i && decide (len = 64)))) ∧ PD w' (fun b => F b ∨ newF w w' b) a n (S.wrote (inR n i && decide (len = 64)) i.toNat l) ∧ Frm F w w' := by
  by_cases he : S.err (inR n i && decide (len = 64)) = 0
  · cases hok : (inR n i && decide (len = 64)) with
    | false =>
      rw [hok] at he
      unfold Dsk.err at he
      split at he <;> simp at he
    | true =>
      rw [hok] at he
      simp only [Bool.and_eq_true, decide_eq_true_eq, inR] at hok
      obtain ⟨⟨h0, hn⟩, rfl⟩ := hok
      obtain ⟨k, rfl⟩ : ∃ k : Nat, i = k := ⟨i.toNat, by omega⟩
      have hc := write_fine h k (by omega) A cap l hA he _ rfl
      refine hc.mono ?_
      rintro e w' ⟨rfl, hp, hf⟩
      have e1 : S.ans true = if S.pow true then 10 else 0 := by simp [Dsk.ans, he]
      have e2 : S.wrote true k l = (S.done true).put k l := by simp [Dsk.wrote, he]
      rw [e1]
      refine ⟨rfl, ?_, hf⟩
      rw [Int.toNat_natCast, e2]
      exact hp
  · refine (write_err h i A len cap he).mono ?_
    rintro e w' ⟨rfl, hp, hf⟩
    have e1 : S.ans (inR n i && decide (len = 64)) = S.err (inR n i && decide (len = 64)) := by simp [Dsk.ans, he]
    have e2 : S.wrote (inR n i && decide (len = 64)) i.toNat l = S.begun (inR n i && decide (len = 64)) := by simp [Dsk.wrote, he]
    rw [e1, e2]
    exact ⟨rfl, hp.wide hf, hf⟩

set_option maxRecDepth 20000 in
set_option maxHeartbeats 3200000 in
theorem rwrite_any {w : World} {F : Nat → Prop} {a n : Nat} {S : Dsk} (h : RD w F a n S) (i : Int) (A : Option Addr) (len cap : Nat) (l : List UInt8) (hA : HasF F w A len (l.map bv)) :
    Calls Try.prog 16 #[.pointer (some ⟨a, 0, none⟩), .int .i64 i, .slice A len cap] w fun e w' => e = .returned (.int .i64 (S.ans (inR n i && decide (len = 64)))) ∧ RD w' (fun b => F b ∨ newF w w' b) a n (S.wrote (inR n i && decide (len = 64)) i.toNat l) ∧ Frm F w w' := by
  cases ho : S.off with
  | true =>
    have h1 : ∀ ok, S.ans ok = 10 := fun ok => by simp [Dsk.ans, Dsk.err, ho]
    have h2 : ∀ ok, S.wrote ok i.toNat l = S := fun ok => by simp [Dsk.wrote, Dsk.err, Dsk.begun, ho]
    rw [h1, h2]
    have hx := h
    obtain ⟨r1, r2, c1, c2, A0, m, c, V1, V2, hx⟩ := hx
    have c4 := hx.e4
    rw [ho] at c4
    have H := Lib.hid (h.wide (Frm.refl F w))
    clear hx h ho h1 h2 hA
    go_enter Try.func16, Try.ntmps16
    go_wp2
    go_ret
    exact ⟨rfl, H.out, Frm.refl _ _⟩
  | false =>
    have hx := h
    obtain ⟨r1, r2, c1, c2, A0, m, c, V1, V2, hx⟩ := hx
    have c4 := hx.e4
    rw [ho] at c4
    have c0 := hx.e0
    have hn4 := hx.ok.n4
    have hn4i : (n : Int) ≤ 4096 := by omega
    have H := Lib.hid h
    clear hx h
    by_cases hi0 : i < 0
    · have hir : inR n i = false := by simp [inR]; omega
      rw [hir, Bool.false_and]
      have h1 : S.ans false = 2 := by simp [Dsk.ans, Dsk.err, ho]
      have h2 : S.wrote false i.toNat l = S := by simp [Dsk.wrote, Dsk.err, Dsk.begun, ho]
      rw [h1, h2]
      have HW := Lib.hid (H.out.wide (Frm.refl F w))
      have hi0' : decide (i < 0) = true := by simpa using hi0
      clear ho h1 h2 hi0 hA H
      go_enter Try.func16, Try.ntmps16
      go_wp2
      go_ret
      exact ⟨rfl, HW.out, Frm.refl _ _⟩
    · have hi0' : decide (i < 0) = false := by simpa using hi0
      by_cases hin : (n : Int) ≤ i
      · have hir : inR n i = false := by simp [inR]; omega
        rw [hir, Bool.false_and]
        have h1 : S.ans false = 2 := by simp [Dsk.ans, Dsk.err, ho]
        have h2 : S.wrote false i.toNat l = S := by simp [Dsk.wrote, Dsk.err, Dsk.begun, ho]
        rw [h1, h2]
        have HW := Lib.hid (H.out.wide (Frm.refl F w))
        have hin' : decide ((n : Int) ≤ i) = true := by simpa using hin
        clear ho h1 h2 hi0 hin hA H
        go_enter Try.func16, Try.ntmps16
        go_wp2
        go_ret
        exact ⟨rfl, HW.out, Frm.refl _ _⟩
      · have hin' : decide ((n : Int) ≤ i) = false := by simpa using hin
        obtain ⟨k, rfl⟩ : ∃ k : Nat, i = k := ⟨i.toNat, by omega⟩
        have hkn : k < n := by omega
        have hinr : inR n (k : Int) = true := by simp [inR, hkn]
        rw [hinr, Bool.true_and, Int.toNat_natCast]
        by_cases hl : len = 64
        · subst hl
          have hdt : decide ((64 : Nat) = 64) = true := by decide
          rw [hdt]
          by_cases hk1 : S.kind = 1
          · have h1 : S.ans true = 9 := by simp [Dsk.ans, Dsk.err, ho, hk1]
            have h2 : S.wrote true k l = S.tick := by simp [Dsk.wrote, Dsk.err, Dsk.begun, ho, hk1]
            rw [h1, h2]
            have hft := rfault_any H.out
            rw [hk1] at hft
            clear ho h1 h2 hi0 hin hk1 hA
            go_enter Try.func16, Try.ntmps16
            go_wp2_with (go_at_call 55; refine hft.mono ?_; rintro e w1 ⟨rfl, hrd, hf⟩)
            go_ret
            exact ⟨rfl, hrd.wide hf, hf⟩
          · have hk1' : (S.kind == 1) = false := by simpa using hk1
            have he : S.err true = 0 := by simp [Dsk.err, ho, hk1]
            have hpw : S.pow true = (S.kind == 2) := by simp [Dsk.pow, ho]; rfl
            have hc := rwrite_fine H.out k hkn A cap l hA ho _ rfl _ hk1' rfl
            refine hc.mono ?_
            rintro e w' ⟨rfl, hp, hf⟩
            have e1 : S.ans true = if (S.kind == 2) then 10 else 0 := by simp [Dsk.ans, he, hpw]
            have e2 : S.wrote true k l = (if (S.kind == 2) then S.tick.cut else S.tick).put k l := by simp [Dsk.wrote, Dsk.done, Dsk.begun, he, hpw, ho]
            rw [e1, e2]
            exact ⟨rfl, hp, hf⟩
        · have hdt : decide (len = 64) = false := by simpa using hl
          rw [hdt]
          have h1 : S.ans false = 2 := by simp [Dsk.ans, Dsk.err, ho]
          have h2 : S.wrote false k l = S := by simp [Dsk.wrote, Dsk.err, Dsk.begun, ho]
          rw [h1, h2]
          have HW := Lib.hid (H.out.wide (Frm.refl F w))
          have hl' : ((len : Int) != 64) = true := by simp; omega
          clear ho h1 h2 hi0 hin hA H hl hdt
          go_enter Try.func16, Try.ntmps16
          go_wp2
          go_ret
          exact ⟨rfl, HW.out, Frm.refl _ _⟩

end Go.Proofs.Ytbknpfngboioeaa
