/-
  Contracts of Write.
-/
import Derived.Test.YtbknpfngboioeaaDk7
namespace Go.Proofs.Ytbknpfngboioeaa
open Go.RowKit

set_option maxHeartbeats 800000 in
theorem write_err {w : World} {F : Nat → Prop} {a n : Nat} {S : Dsk} (h : PD w F a n S) (i : Int) (A : Option Addr) (len cap : Nat) (he : S.err (inR n i && decide (len = 64)) ≠ 0) :
    Calls Try.prog 14 #[.pointer (some ⟨a, 0, none⟩), .int .i64 i, .slice A len cap] w fun e w' => e = .returned (.int .i64 (S.err (inR n i && decide (len = 64)))) ∧ PD w' F a n (S.begun (inR n i && decide (len = 64))) ∧ Frm F w w' := by
  have hc := contains_any h i
  have hb := begin_err h _ he
  have he' : (S.err (inR n i && decide (len = 64)) == 0) = false := by simpa using he
  clear he
  have hlen : ((len : Int) == 64) = decide (len = 64) := by by_cases hl : len = 64 <;> simp [hl] ; omega
  generalize decide (len = 64) = q at *
  cases hin : inR n i with
  | true =>
    rw [hin] at hc hb he'
    rw [Bool.true_and] at hb he'
    rw [Bool.true_and]
    clear hin
    generalize S.err q = er at *
    go_enter Try.func14, Try.ntmps14
    go_wp2_with (first
      | (go_at_call 52; refine hc.mono ?_; rintro e w' ⟨rfl, rfl⟩)
      | (go_at_call 51; refine hb.mono ?_; rintro e w1 ⟨rfl, hpd, hf⟩))
    go_ret
    exact ⟨rfl, hpd, hf⟩
  | false =>
    rw [hin] at hc hb he'
    rw [Bool.false_and] at hb he'
    rw [Bool.false_and]
    clear hin
    generalize S.err false = er at *
    go_enter Try.func14, Try.ntmps14
    go_wp2_with (first
      | (go_at_call 52; refine hc.mono ?_; rintro e w' ⟨rfl, rfl⟩)
      | (go_at_call 51; refine hb.mono ?_; rintro e w1 ⟨rfl, hpd, hf⟩))
    go_ret
    exact ⟨rfl, hpd, hf⟩

theorem Frm.drew {F : Nat → Prop} {w w1 : World} (h : Frm F w w1) : Frm F w w1.drew := h.trans' (Frm.of_below ((Below.refl _ _).drew))
theorem PD.drew {w : World} {F : Nat → Prop} {a n : Nat} {S : Dsk} (h : PD w F a n S) : PD w.drew F a n S := h.below ((Below.refl _ _).drew)

theorem write_end {w v w3 : World} {F : Nat → Prop} {a n : Nat} {S : Dsk} (hf : Frm F w v) (h : PD w3 (fun k => F k ∨ newF v w3 k) a n S) : PD w3 (fun k => F k ∨ newF w w3 k) a n S := by
  have := hf.size
  refine h.more ?_ ?_
  · rintro b (hb | hb)
    · exact .inl hb
    · exact .inr ⟨by have := hb.1; omega, hb.2⟩
  · rintro b (hb | hb)
    · exact h.lt b (.inl hb)
    · exact hb.2
theorem write_end2 {w v w3 w4 : World} {F G : Nat → Prop} {a n : Nat} {S : Dsk} (hf : Frm F w v) (hf4 : Frm G w3 w4) (h : PD w4 (fun k => F k ∨ newF v w3 k) a n S) : PD w4 (fun k => F k ∨ newF w w4 k) a n S := by
  have := hf.size
  have := hf4.size
  refine h.more ?_ ?_
  · rintro b (hb | hb)
    · exact .inl hb
    · exact .inr ⟨by have := hb.1; omega, by have := hb.2; omega⟩
  · rintro b (hb | hb)
    · exact h.lt b (.inl hb)
    · exact hb.2

set_option maxRecDepth 20000 in
set_option maxHeartbeats 1600000 in
theorem write_fine {w : World} {F : Nat → Prop} {a n : Nat} {S : Dsk} (h : PD w F a n S) (i : Nat) (hi : i < n) (A : Option Addr) (cap : Nat) (xs : List UInt8) (hA : HasF F w A 64 (xs.map bv)) (he : S.err true = 0) (p : Bool) (hp : S.pow true = p) :
    Calls Try.prog 14 #[.pointer (some ⟨a, 0, none⟩), .int .i64 i, .slice A 64 cap] w fun e w' => e = .returned (.int .i64 (if p then 10 else 0)) ∧ PD w' (fun k => F k ∨ newF w w' k) a n ((S.done true).put i xs) ∧ Frm F w w' := by
  have hin : inR n (i : Int) = true := by simp [inR, hi]
  have hc := contains_any h i
  rw [hin] at hc
  have hb := begin_fine h true he
  rw [hp] at hb
  have hdone : S.done true = if p then (S.begun true).cut else S.begun true := by simp [Dsk.done, he, hp]
  rw [hdone]
  have hH := Lib.hid hi
  have hx64 : Hid (xs.length = 64) := by show _ = _; simpa using hA.1
  have HAH := Lib.hid hA
  clear he hp hin hi hdone hA
  go_enter Try.func14, Try.ntmps14
  go_wp2_with (first
    | (go_at_call 52; refine hc.mono ?_; rintro e w' ⟨rfl, rfl⟩)
    | (go_at_call 51; refine hb.mono ?_; rintro e w1 ⟨rfl, hpd, hf⟩; obtain ⟨sb, mb, A', m, c, D, hx⟩ := hpd.drew; have c1 := hx.c1; have lt1 := hx.lt a hx.fa; have HX := Lib.hid hx; have HF1 := Lib.hid hf.drew; clear hx hpd hf; have hA1 := HAH.out.keep HF1.out (G := F) (fun _ h => .inl h)))
  refine wp_region_any (by kernel_rfl) ?_
  change wpAny _ _ _ _ _ _ _ (World.drew _)
  generalize World.drew w1 = v1 at *
  refine any_take (i := 0) (v := ?_) rfl (by kernel_rfl) (by kernel_rfl) (by kernel_rfl) (fun _ _ _ h => h) (by exact rfl) (by intro w; go_simp; try with_reducible rfl) (fun K hK => ?_); go_simp; refine hK _ _ ?_; clear hK K
  refine any_take (i := 1) (v := ?_) rfl (by kernel_rfl) (by kernel_rfl) (by kernel_rfl) (fun _ _ _ h => h) (by exact rfl) (by intro w; go_simp; try with_reducible rfl) (fun K hK => ?_); go_simp; refine hK _ _ ?_; clear hK K
  refine any_take (i := 2) (v := ?_) rfl (by kernel_rfl) (by kernel_rfl) (by kernel_rfl) (fun _ _ _ h => h) (by exact rfl) (by intro w; go_simp; try with_reducible rfl) (fun K hK => ?_); go_simp; refine hK _ _ ?_; clear hK K
  refine any_take (i := 4) (v := ?_) rfl (by kernel_rfl) (by kernel_rfl) (by kernel_rfl) (fun _ _ _ h => h) (by exact rfl) (by intro w; go_simp; try with_reducible rfl) (fun K hK => ?_); go_simp; refine hK _ _ ?_; clear hK K
  refine any_take (i := 5) (v := ?_) rfl (by kernel_rfl) (by kernel_rfl) (by kernel_rfl) (fun _ _ _ h => h) (by exact rfl) (by intro w; go_simp; try with_reducible rfl) (fun K hK => ?_); go_simp; refine hK _ _ ?_; clear hK K
  refine wpAny_ready (rs := [3, 6]) (by kernel_rfl) (by simp) ?_
  refine AllReady.cons rfl (fun K hK => ?_) (AllReady.cons rfl (fun K hK => ?_) AllReady.nil)
  · go_simp
    refine hK _ _ ?_
    clear hK K
    refine wpAny_ready (rs := [6]) (by kernel_rfl) (by simp) ?_
    refine AllReady.cons rfl (fun K hK => ?_) AllReady.nil
    go_simp
    refine (copied_any A 64 cap v1.heap.size xs v1 hA1.has (Nat.le_refl _) (by omega)).mono ?_
    rintro e w2 ⟨g, rfl, hg0, hrow, hb2⟩
    obtain ⟨w3, hrun, hpd3, hf3⟩ := put_run HX.out hb2 hg0 hrow hH.out hx64.out
    refine hK _ _ ?_
    clear hK K
    refine wpAny_ready (rs := [7]) (by kernel_rfl) (by simp) ?_
    refine AllReady.cons rfl (fun K hK => ?_) AllReady.nil
    go_simp
    refine hK _ _ ?_
    clear hK K
    cases p with
    | false =>
      refine wpAny_done (by kernel_rfl) ?_ _
      go_wp2
      go_ret
      exact ⟨rfl, write_end HF1.out hpd3, HF1.out.trans' hf3⟩
    | true =>
      refine wpAny_done (by kernel_rfl) ?_ _
      go_wp2_with (go_at_call 21; refine (cut_any hpd3).mono ?_; rintro e w4 ⟨rfl, hpd4, hf4⟩)
      go_ret
      exact ⟨rfl, write_end2 HF1.out hf4 hpd4, (HF1.out.trans' hf3).trans hf4 fun b hb => hb.elim .inl fun hb => .inr (by have := HF1.out.size; have := hb.1; omega)⟩
  · go_simp
    refine (copied_any A 64 cap v1.heap.size xs v1 hA1.has (Nat.le_refl _) (by omega)).mono ?_
    rintro e w2 ⟨g, rfl, hg0, hrow, hb2⟩
    obtain ⟨w3, hrun, hpd3, hf3⟩ := put_run HX.out hb2 hg0 hrow hH.out hx64.out
    have c2 := (hb2.cell (p := ⟨a, 1, none⟩) lt1).trans c1
    refine hK _ _ ?_
    clear hK K
    refine wpAny_ready (rs := [3]) (by kernel_rfl) (by simp) ?_
    refine AllReady.cons rfl (fun K hK => ?_) AllReady.nil
    go_simp
    refine hK _ _ ?_
    clear hK K
    refine wpAny_ready (rs := [7]) (by kernel_rfl) (by simp) ?_
    refine AllReady.cons rfl (fun K hK => ?_) AllReady.nil
    go_simp
    refine hK _ _ ?_
    clear hK K
    cases p with
    | false =>
      refine wpAny_done (by kernel_rfl) ?_ _
      go_wp2
      go_ret
      exact ⟨rfl, write_end HF1.out hpd3, HF1.out.trans' hf3⟩
    | true =>
      refine wpAny_done (by kernel_rfl) ?_ _
      go_wp2_with (go_at_call 21; refine (cut_any hpd3).mono ?_; rintro e w4 ⟨rfl, hpd4, hf4⟩)
      go_ret
      exact ⟨rfl, write_end2 HF1.out hf4 hpd4, (HF1.out.trans' hf3).trans hf4 fun b hb => hb.elim .inl fun hb => .inr (by have := HF1.out.size; have := hb.1; omega)⟩

end Go.Proofs.Ytbknpfngboioeaa
