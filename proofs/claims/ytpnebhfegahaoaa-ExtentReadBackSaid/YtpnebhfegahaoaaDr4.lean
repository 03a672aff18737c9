/-
  Contracts of the reference's Read and Write.
-/
import Derived.Test.YtpnebhfegahaoaaDr3
import Derived.Test.YtpnebhfegahaoaaStill
import Derived.Deep.AppendLies
namespace Go.Proofs.Ytpnebhfegahaoaa
open Go.RowKit

/-- What an operation answers where it has no effect: nothing but the count has turned. -/
theorem kind_err {S : Dsk} (ho : S.off = false) (hk : S.kind = 1) : S.err true = 9 := by simp [Dsk.err, ho, hk]
theorem rcut_cell {w : World} {F : Nat → Prop} {a n : Nat} {S : Dsk} {r1 r2 c1 c2 m c : Nat} {A : Option Addr} {V1 V2 : Nat → Value} (h1 : RDx w F a n S r1 r2 c1 c2 A m c V1 V2) :
    RDx (w.setCell ⟨a, 4, none⟩ (.bool true)) F a n S.cut r1 r2 c1 c2 A m c V1 V2 ∧ Frm (fun b => b = a) w (w.setCell ⟨a, 4, none⟩ (.bool true)) := by
  have hf : Frm (fun b => b = a) w (w.setCell ⟨a, 4, none⟩ (.bool true)) := (Frm.refl (fun b => b = a) w).setCell (p := ⟨a, 4, none⟩) (.inl rfl) _
  refine ⟨h1.fields hf h1.ok.cut rfl rfl rfl ?_, hf⟩
  have := set_field (j := 4) (v := .bool true) h1.cells
  rw [this]
  rfl
set_option maxRecDepth 20000 in
set_option maxHeartbeats 1600000 in
theorem rread_any {w : World} {F : Nat → Prop} {a n : Nat} {S : Dsk} (h : RD w F a n S) (i : Int) :
    Calls Try.prog 39 #[.pointer (some ⟨a, 0, none⟩), .int .i64 i] w fun e w' => ∃ v z, e = .returned (.tuple #[v, .int .i64 z]) ∧ z = S.ans (inR n i) ∧ RD w' F a n (S.done (inR n i)) ∧ Frm F w w' ∧
      (z ≠ 0 → v = .slice none 0 0) ∧ (z = 0 → ∃ g c, v = .slice (some ⟨g, 0, none⟩) 64 c ∧ w.heap.size ≤ g ∧ Own8 w' g c 64 (S.sec i.toNat)) := by
  cases ho : S.off with
  | true =>
    have h1 : S.ans (inR n i) = 10 := by simp [Dsk.ans, Dsk.err, ho]
    have h2 : S.done (inR n i) = S := by simp [Dsk.done, Dsk.err, Dsk.begun, ho]
    rw [h1, h2]
    have hx := h
    obtain ⟨r1, r2, c1, c2, A, m, c, V1, V2, hx⟩ := hx
    have c4 := hx.e4
    rw [ho] at c4
    have H := Lib.hid h
    clear hx h ho h1 h2
    go_enter Try.func39, Try.ntmps39
    go_wp2
    go_ret2
    exact ⟨_, 10, rfl, rfl, H.out, Frm.refl _ _, fun _ => rfl, fun h => absurd h (by decide)⟩
  | false =>
    have hx := h
    obtain ⟨r1, r2, c1, c2, A, m, c, V1, V2, hx⟩ := hx
    have c4 := hx.e4
    rw [ho] at c4
    have c0 := hx.e0
    have hn4 := hx.ok.n4
    have hn4i : (n : Int) ≤ 4096 := by omega
    have H := Lib.hid h
    clear hx h
    by_cases hi0 : i < 0
    · have hir : inR n i = false := by simp [inR]; omega
      have h1 : S.ans (inR n i) = 2 := by simp [Dsk.ans, Dsk.err, ho, hir]
      have h2 : S.done (inR n i) = S := by simp [Dsk.done, Dsk.err, Dsk.begun, ho, hir]
      rw [h1, h2]
      have hi0' : decide (i < 0) = true := by simpa using hi0
      clear ho h1 h2 hi0
      go_enter Try.func39, Try.ntmps39
      go_wp2
      go_ret2
      exact ⟨_, 2, rfl, rfl, H.out, Frm.refl _ _, fun _ => rfl, fun h => absurd h (by decide)⟩
    · have hi0' : decide (i < 0) = false := by simpa using hi0
      by_cases hin : (n : Int) ≤ i
      · have hir : inR n i = false := by simp [inR]; omega
        have h1 : S.ans (inR n i) = 2 := by simp [Dsk.ans, Dsk.err, ho, hir]
        have h2 : S.done (inR n i) = S := by simp [Dsk.done, Dsk.err, Dsk.begun, ho, hir]
        rw [h1, h2]
        have hin' : decide ((n : Int) ≤ i) = true := by simpa using hin
        clear ho h1 h2 hi0 hin
        go_enter Try.func39, Try.ntmps39
        go_wp2
        go_ret2
        exact ⟨_, 2, rfl, rfl, H.out, Frm.refl _ _, fun _ => rfl, fun h => absurd h (by decide)⟩
      · have hin' : decide ((n : Int) ≤ i) = false := by simpa using hin
        obtain ⟨k, rfl⟩ : ∃ k : Nat, i = k := ⟨i.toNat, by omega⟩
        have hkn : k < n := by omega
        have hinr : inR n (k : Int) = true := by simp [inR, hkn]
        rw [hinr]
        have hbeg : S.begun true = S.tick := by simp [Dsk.begun, ho]
        have hft := rfault_any H.out
        have hsecT : S.tick.sec k = S.sec k := rfl
        by_cases hk1 : S.kind = 1
        · have h1 : S.ans true = 9 := by simp [Dsk.ans, Dsk.err, ho, hk1]
          have h2 : S.done true = S.tick := by simp [Dsk.done, Dsk.err, Dsk.begun, ho, hk1]
          rw [h1, h2]
          rw [hk1] at hft
          clear ho h1 h2 hi0 hin hk1 hbeg
          go_enter Try.func39, Try.ntmps39
          go_wp2_with (go_at_call 56; refine hft.mono ?_; rintro e w1 ⟨rfl, hrd, hf⟩)
          go_ret2
          exact ⟨_, 9, rfl, rfl, hrd, hf, fun _ => rfl, fun h => absurd h (by decide)⟩
        · by_cases hk2 : S.kind = 2
          · have h1 : S.ans true = 10 := by simp [Dsk.ans, Dsk.err, Dsk.pow, ho, hk2]
            have h2 : S.done true = S.tick.cut := by simp [Dsk.done, Dsk.err, Dsk.pow, Dsk.begun, ho, hk2]
            rw [h1, h2]
            rw [hk2] at hft
            clear ho h1 h2 hi0 hin hk1 hk2 hbeg
            go_enter Try.func39, Try.ntmps39
            go_wp2_with (go_at_call 56; refine hft.mono ?_; rintro e w1 ⟨rfl, hrd, hf⟩; obtain ⟨q1, q2, d1, d2, A', m', c', U1, U2, hy⟩ := hrd; have b4 := hy.e4; have g4 := hy.fr 4; have HY := Lib.hid hy; clear hy)
            go_ret2
            obtain ⟨hcut, hfc⟩ := rcut_cell HY.out
            exact ⟨_, 10, rfl, rfl, ⟨_, _, _, _, _, _, _, _, _, hcut⟩, hf.trans hfc fun b e => .inl (e ▸ HY.out.fa), fun _ => rfl, fun h => absurd h (by decide)⟩
          · have h1 : S.ans true = 0 := by simp [Dsk.ans, Dsk.err, Dsk.pow, ho, hk1, hk2]
            have h2 : S.done true = S.tick := by simp [Dsk.done, Dsk.err, Dsk.pow, Dsk.begun, ho, hk1, hk2]
            rw [h1, h2]
            have hk1' : (S.kind == 1) = false := by simpa using hk1
            have hk2' : (S.kind == 2) = false := by simpa using hk2
            clear ho h1 h2 hi0 hin hk1 hk2 hbeg
            generalize S.kind = kd at hft hk1' hk2'
            obtain ⟨i5, hi5, hz0, hz1, hz2⟩ := info_parts infoU8
            have hb1 : Hid (0 + 64 ≤ maxLen) := by show _ ≤ _; unfold maxLen; omega
            go_enter Try.func39, Try.ntmps39
            go_wp2_with (first
              | (go_at_call 56; refine hft.mono ?_; rintro e w1 ⟨rfl, hrd, hf⟩)
              | (go_at_call 69; refine (rcontent_any (hrd.below ((Below.refl _ _).alloc (Nat.le_refl _) (.cells #[] 5))) k hkn).mono ?_; rintro e w2 ⟨⟨v, rfl, g, cg, rfl, hFg, hog⟩, rfl⟩; have hown := own_empty w1 5; have hhs := hog.has)
              | (at_builtin; refine wpList_app_has _ rfl _ _ 34 (by exact rfl) w1.heap.size 5 i5 (.int .u8 0) 1 tyBs hi5 hz0 hz1 hz2 rfl _ 0 _ (by exact rfl) hown (some ⟨g, 0, none⟩) 64 cg _ _ (by exact rfl) (fun e => by cases e) hhs (one_bytes _) hb1.out (by decide) ((Below.refl w1.heap.size w1).alloc (Nat.le_refl _) (.cells #[] 5)) (Nat.le_refl _) ?_; intro v3 w3 hown3 hb3 _))
            go_ret2
            rw [Nat.zero_add, List.nil_append] at hown3
            obtain ⟨g3, c3, rfl, hg3, ho3⟩ := Own8.of hown3 (by omega)
            have hs1 := hf.size
            exact ⟨_, 0, rfl, rfl, hrd.below hb3, hf.trans' (Frm.of_below hb3), fun h => absurd rfl h, fun _ => ⟨g3, c3, rfl, by omega, ho3⟩⟩

end Go.Proofs.Ytpnebhfegahaoaa
